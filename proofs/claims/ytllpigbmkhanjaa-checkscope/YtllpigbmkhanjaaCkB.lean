/-
  Package check: the walk over the kinds of a node's kids.
-/
import Derived.Test.YtllpigbmkhanjaaCkA
namespace Go.Proofs.Ytllpigbmkhanjaa
open Go.RowKit Go.Shelf

attribute [local go_sem] Oper.semAt_some

/-- The kind that all are of. -/
def oneF : List KR → Int → Bool → Bool → KR
  | [], k, _, alike => if alike then (k, 0) else (0, 14)
  | x :: r, k, first, alike => if x.2 ≠ 0 then (0, x.2) else oneF r x.1 false (alike && (first || x.1 == k))
def oneP (l : List KR) : KR := oneF l 0 true true
def fksP (ts : List Ty) (nm : ByteArray) (es : List Em) : List KR := es.flatMap fun e => e.ts.map fun t => fkP ts t.1 nm
def fieldK (ts : List Ty) (es : List Em) (al nm : ByteArray) : KR :=
  match es.find? fun e => e.al.1.toList == al.toList with
  | none => (0, 13)
  | some e => oneP (fksP ts nm [e])
mutual
/-- The kind of a condition. -/
def kindT (ts : List Ty) (es : List Em) : Tree → KR
  | .mk d ks =>
    if d.op = 1 then (d.k, 0)
    else if d.op = 2 then fieldK ts es d.al.1 d.fd.1
    else if (oneP (kindL ts es ks)).2 ≠ 0 then (0, (oneP (kindL ts es ks)).2)
    else resP d.op (oneP (kindL ts es ks)).1
def kindL (ts : List Ty) (es : List Em) : List Tree → List KR
  | [] => []
  | t :: r => kindT ts es t :: kindL ts es r
end
theorem kindL_map (ts : List Ty) (es : List Em) (l : List Tree) : kindL ts es l = l.map (kindT ts es) := by
  induction l with
  | nil => rfl
  | cons t r ih => simp [kindL, ih]

/-- The function value over g and what it holds gives these kinds, from w on. -/
def GivesK (w : World) (g : Nat) (lb : Array Value) (ks : List KR) : Prop :=
  Enters Try.prog g ∧ ∀ n W, 1 ≤ n → Below w.heap.size w W → SeqStopsK Fence.wide n Try.prog g lb encK (Below w.heap.size) (fun ys => ys = ks)
      (fun pre => ∃ k, k ≤ ks.length ∧ pre = ks.take k) ks.length W

/-- What kind does with a node whose kids lie at a. -/
def KindC (n₀ : Nat) (W0 : World) (sv : Value) (ts : List Ty) (es : List Em) (a : Option Addr) (ks : List Tree) : Prop :=
  ∀ (d : Dat) (cap : Nat) (W : World), Sm n₀ W0 W → n₀ ≤ W.heap.size →
    Calls Try.prog 14 #[sv, d.v a ks.length cap] W fun r W' => r = .returned (kindT ts es (.mk d ks)).v ∧ Below W.heap.size W W'

set_option maxRecDepth 100000 in
set_option maxHeartbeats 4000000 in
theorem kinds1_in (n : Nat) (hn : 1 ≤ n) (l Bl Bs m₀ n₀ b off cap : Nat) (x y : Value) (ts : List Ty) (es : List Em) (ks : List Tree) (hl : ks.length ≤ 1099511627776) (hm : m₀ ≤ n₀) (hb : b < m₀) (W0 : World)
    (f : Nat → Option Addr × Nat) (hc0 : ∀ j t, ks[j]? = some t → ∀ i u, (t.dat.cs (f j).1 t.kids.length (f j).2)[i]? = some u → W0.cell? ⟨b, off + j * 7 + i, none⟩ = some u)
    (hK : ∀ (j : Nat) t, ks[j]? = some t → KindC m₀ W0 (.agg #[x, y]) ts es (f j).1 t.kids)
    (J Jx : List KR → World → Prop)
    (hal : ∀ pre W W', J pre W → Below W.heap.size W W' → J pre W')
    (hY : ∀ pre x W, J pre W → pre.length < ks.length → YieldAt Fence.wide (n - 1) Try.prog l (encK x) W fun e W' =>
      (e = .returned (.bool true) ∧ J (pre ++ [x]) W' ∧ Below n₀ W W') ∨ (e = .returned (.bool false) ∧ Jx (pre ++ [x]) W'))
    (W : World) (hs : Sm m₀ W0 W) (hn₀ : n₀ ≤ W.heap.size) (hBs : Bs < n₀) (xl : Box W Bl 26 #[.slice (some ⟨b, off, none⟩) ks.length cap]) (xs : Box W Bs 57 #[x, y]) (h0 : J [] W) :
    CallsIn Fence.wide n Try.prog 38 #[.func (.yield l) #[] #[], .pointer (some ⟨Bl, 0, none⟩), .pointer (some ⟨Bs, 0, none⟩)] W fun e W' => (∃ v, e = .returned v) ∧
      (J (ks.map (kindT ts es)) W' ∨ (∃ k, k ≤ ks.length ∧ Jx ((ks.map (kindT ts es)).take k) W')) := by
  have hx0 := xl.one.1
  refine callsIn_of_wp Try.func38 rfl trivial ?_ rfl
  simp only [Try.ntmps38, List.size_toArray, List.length_cons, List.length_nil, Nat.reduceAdd, Nat.reduceSub, Array.replicate_succ, Array.replicate_zero, List.push_toArray, List.append_toArray, List.nil_append, List.cons_append]
  replace hc0 := hide hc0
  replace hK := hide hK
  gi_wp2_with fail
  gi_loopw [8] (fun i wr => ∃ k : Nat, k ≤ ks.length ∧ i = .int .i64 k ∧ J ((ks.map (kindT ts es)).take k) wr ∧ Below n₀ W wr)
    (fun i _ => ks.length - (intOf i).toNat)
  case atStart => exact ⟨0, Nat.zero_le _, rfl, h0, Below.refl _ _⟩
  case round =>
    obtain ⟨k, hk, rfl, hJs, hnx⟩ := hrel
    by_cases hlt : k < ks.length
    · obtain ⟨t, ht⟩ : ∃ t, ks[k]? = some t := ⟨_, List.getElem?_eq_getElem hlt⟩
      have sr : Sm m₀ W0 wr := hs.trans (Sm.of_below (hnx.mono hm))
      have hcs : ∀ i u, (t.dat.cs (f k).1 t.kids.length (f k).2)[i]? = some u → wr.cell? ⟨b, off + k * 7 + i, none⟩ = some u := fun i u hu => sr.cell hb (unhide hc0 k t ht i u hu)
      have hV := unhide hK k t ht
      have hsucc := hide (show (ks.map (kindT ts es)).take k ++ [kindT ts es t] = (ks.map (kindT ts es)).take (k + 1) by
        rw [List.take_add_one, List.getElem?_map, ht]; rfl)
      have hlen := hide (show ((ks.map (kindT ts es)).take k).length < ks.length by simp; omega)
      clear ht
      obtain ⟨dt, kt⟩ := t
      generalize f k = fk at hcs hV
      obtain ⟨at', ct⟩ := fk
      simp only [Tree.dat, Tree.kids] at hcs hV
      have hd0 := hcs 0 _ rfl
      have hd1 := hcs 1 _ rfl
      have hd2 := hcs 2 _ rfl
      have hd3 := hcs 3 _ rfl
      have hd4 := hcs 4 _ rfl
      have hd5 := hcs 5 _ rfl
      have hd6 := hcs 6 _ rfl
      rw [Nat.add_zero] at hd0
      clear hcs
      have hwr : n₀ ≤ wr.heap.size := Nat.le_trans hn₀ hnx.size
      have xsr := xs.on hnx hBs
      obtain ⟨Wk, hWk⟩ : ∃ Wk, Wk = wr.alloc (.cells (dt.cs at' kt.length ct) 28) := ⟨_, rfl⟩
      have bk : Below wr.heap.size wr Wk := by rw [hWk]; exact (Below.refl _ _).alloc (Nat.le_refl _) _
      have xk : Box Wk wr.heap.size 28 (dt.cs at' kt.length ct) := by rw [hWk]; exact Box.new _ _ _
      have cV := hide (hV dt ct Wk (sr.trans (Sm.of_below (bk.mono (by omega)))) (by have := bk.size; omega))
      have JV := hide (hal _ _ _ hJs bk)
      have hkl : (k : Int) < ks.length := by omega
      obtain ⟨q0, q1, q2, q3, q4, q5, q6⟩ := xk.seven
      obtain ⟨p0, p1⟩ := (xsr.on bk xsr.lt).two
      clear hV hJs
      gi_upto_region 3 with fail
      rw [← hWk]
      clear hWk
      gi_wp2_with fail
      refine ⟨trivial, ?_⟩
      refine (callsIn_wide.2 (unhide cV)).mono ?_
      rintro e W2 ⟨rfl, hb2⟩
      have J2 := hal _ _ _ (unhide JV) hb2
      have b2 := hnx.trans ((bk.mono hwr).trans (hb2.mono (Nat.le_trans hwr bk.size)))
      obtain ⟨R, hR⟩ : ∃ R, R = kindT ts es (.mk dt kt) := ⟨_, rfl⟩
      rw [← hR] at hsucc ⊢
      clear hR
      obtain ⟨fn, tmps, assign, body, hy, hR⟩ := (hY _ R W2 J2 (unhide hlen)).mono
        (R' := fun e W' => ∃ bb : Bool, e = .returned (.bool bb) ∧ Hid ((bb = true ∧ J ((ks.map (kindT ts es)).take k ++ [R]) W' ∧ Below n₀ W2 W') ∨ (bb = false ∧ Jx ((ks.map (kindT ts es)).take k ++ [R]) W')))
        (fun e W' h => by
          rcases h with ⟨rfl, h⟩ | ⟨rfl, h⟩
          · exact ⟨true, rfl, .inl ⟨rfl, h⟩⟩
          · exact ⟨false, rfl, .inr ⟨rfl, h⟩⟩)
      gi_wp2_with fail
      refine hR.mono ?_
      rintro e W3 ⟨bb, rfl, hbb⟩
      rcases unhide hbb with ⟨rfl, hJ3, hk3⟩ | ⟨rfl, hJx3⟩
      · clear hbb hR hy
        gi_wp2_with fail
        go_roundw
        case rel => exact ⟨k + 1, by omega, by go_num, by rw [← unhide hsucc]; exact hJ3, b2.trans hk3⟩
        case measure => simp [intOf]; omega
      · clear hbb hR hy
        gi_wp2_with fail
        refine bodyPost_ret (results_none rfl _ _ _) rfl ?_
        exact ⟨⟨_, rfl⟩, .inr ⟨k + 1, by omega, by rw [← unhide hsucc]; exact hJx3⟩⟩
    · have hke := hide (show (ks.map (kindT ts es)).take k = ks.map (kindT ts es) from List.take_of_length_le (by simp; omega))
      gi_wp2_with fail
      go_end0
      exact ⟨⟨_, rfl⟩, .inl (by rw [← unhide hke]; exact hJs)⟩

set_option maxRecDepth 100000 in
set_option maxHeartbeats 1000000 in
theorem kinds1_nil_in (n : Nat) (l Bl Bs : Nat) (a : Option Addr) (cap : Nat) (J : List KR → World → Prop) (W : World) (xl : Box W Bl 26 #[.slice a 0 cap]) (h0 : J [] W) :
    CallsIn Fence.wide n Try.prog 38 #[.func (.yield l) #[] #[], .pointer (some ⟨Bl, 0, none⟩), .pointer (some ⟨Bs, 0, none⟩)] W fun e W' => (∃ v, e = .returned v) ∧ J [] W' := by
  have hx0 := xl.one.1
  refine callsIn_of_wp Try.func38 rfl trivial ?_ rfl
  simp only [Try.ntmps38, List.size_toArray, List.length_cons, List.length_nil, Nat.reduceAdd, Nat.reduceSub, Array.replicate_succ, Array.replicate_zero, List.push_toArray, List.append_toArray, List.nil_append, List.cons_append]
  gi_wp2_with fail
  gi_loopw [8] (fun i wr => i = .int .i64 0 ∧ J [] wr) (fun _ _ => 0)
  case atStart => exact ⟨rfl, h0⟩
  case round =>
    obtain ⟨rfl, hJs⟩ := hrel
    gi_wp2_with fail
    go_end0
    exact ⟨⟨_, rfl⟩, hJs⟩

theorem own_below {α : Type} {B : Nat} {J : List α → World → Prop} (h : AbidesFrom B J) (pre : List α) (W W' : World) (hj : J pre W) (hb : Below W.heap.size W W') : J pre W' :=
  h pre W W' none hj ⟨hb.os, hb.tape, hb.output, hb.size, fun k hk _ => hb.block k hk⟩ (fun r e => by cases e)

theorem kinds_c (x y : Value) (ts : List Ty) (es : List Em) (a : Option Addr) (cap : Nat) (ks : List Tree) (n₀ : Nat) (W0 : World) (hL : Lies n₀ W0 a ks)
    (hK : ks = [] ∨ ∃ (b off : Nat) (f : Nat → Option Addr × Nat), a = some ⟨b, off, none⟩ ∧ b < n₀ ∧ (∀ j t, ks[j]? = some t → ∀ i u, (t.dat.cs (f j).1 t.kids.length (f j).2)[i]? = some u → W0.cell? ⟨b, off + j * 7 + i, none⟩ = some u) ∧ ∀ (j : Nat) t, ks[j]? = some t → KindC n₀ W0 (.agg #[x, y]) ts es (f j).1 t.kids)
    (w : World) (hs : Sm n₀ W0 w) (hn : n₀ ≤ w.heap.size) :
    Calls Try.prog 25 #[.agg #[x, y], .slice a ks.length cap] w fun r W' => ∃ lb, r = .returned (.func (.func 38) #[] lb) ∧ GivesK W' 38 lb (ks.map (kindT ts es)) ∧ Below w.heap.size w W' := by
  obtain ⟨W1, hW1⟩ : ∃ W1, W1 = (w.alloc (.cells #[x, y] 57)).alloc (.cells #[.slice a ks.length cap] 26) := ⟨_, rfl⟩
  have b1 : Below w.heap.size w W1 := by rw [hW1]; exact ((Below.refl _ _).alloc (Nat.le_refl _) _).alloc (by simp) _
  have x1 : Box W1 w.heap.size 57 #[x, y] := by rw [hW1]; exact (Box.new _ _ _).alloc _
  have y1 : Box W1 (w.heap.size + 1) 26 #[.slice a ks.length cap] := by
    have := Box.new (w.alloc (.cells #[x, y] 57)) 26 #[.slice a ks.length cap]
    rw [World.size_alloc] at this
    rw [hW1]; exact this
  replace hK := hide hK
  replace hW1 := hide hW1
  go_enter Try.func25, Try.ntmps25
  go_wp2_with fail
  go_ret
  rw [← unhide hW1]
  refine ⟨#[.pointer (some ⟨w.heap.size + 1, 0, none⟩), .pointer (some ⟨w.heap.size, 0, none⟩)], rfl, ⟨enters_of Try.func38 (by kernel_rfl) rfl, fun n W hn1 hbW => ?_⟩, b1⟩
  intro l J Jx V hV hJ hJx hY h0
  have hbV : Below W1.heap.size W1 V := hbW.trans (hV.mono hbW.size)
  have hsz := hbV.size
  rcases unhide hK with rfl | ⟨b, off, f, rfl, hbn, hcs, hC⟩
  · refine (kinds1_nil_in n l (w.heap.size + 1) w.heap.size a cap J V (y1.on hbV y1.lt) h0).mono ?_
    rintro e W' ⟨he, hj⟩
    exact ⟨he, .inl ⟨_, rfl, hj⟩⟩
  · refine (kinds1_in n hn1 l (w.heap.size + 1) w.heap.size n₀ W1.heap.size b off cap x y ts es ks hL.len (Nat.le_trans hn b1.size) hbn W0 f hcs hC J Jx (fun pre A B h k => own_below hJ pre A B h k) ?_ V (hs.trans ((Sm.of_below (b1.mono hn)).trans (Sm.of_below (hbV.mono (Nat.le_trans hn b1.size))))) hsz x1.lt (y1.on hbV y1.lt) (x1.on hbV x1.lt) h0).mono ?_
    · intro pre v A hA hlt
      exact hY pre v A hA (by simpa using hlt)
    · rintro e W' ⟨he, hj | ⟨k, hk, hj⟩⟩
      · exact ⟨he, .inl ⟨_, rfl, hj⟩⟩
      · exact ⟨he, .inr ⟨_, ⟨k, by simpa using hk, rfl⟩, hj⟩⟩

theorem oneF_bad (l q : List KR) (x : KR) (m : Nat) (k : Int) (f al : Bool) (e : q ++ [x] = l.take m) (hq : ∀ y ∈ q, y.2 = 0) (hx : x.2 ≠ 0) : oneF l k f al = (0, x.2) := by
  have e2 : l = q ++ (x :: l.drop m) := by
    have := List.take_append_drop m l
    rw [← e, List.append_assoc] at this; exact this.symm
  rw [e2]
  clear e e2
  induction q generalizing k f al with
  | nil => simp [oneF, hx]
  | cons y q ih =>
    have hy := hq y (by simp)
    simp only [List.cons_append, oneF, hy, ne_eq, not_true_eq_false, if_false]
    exact ih _ _ _ (fun z hz => hq z (by simp [hz]))
/-- The kind, whether it is the first, whether all are alike, behind some that have no error. -/
def oneS : List KR → Int × Bool × Bool → Int × Bool × Bool
  | [], s => s
  | x :: r, s => oneS r (x.1, false, s.2.2 && (s.2.1 || x.1 == s.1))
theorem oneS_snoc (l : List KR) (x : KR) (s : Int × Bool × Bool) : oneS (l ++ [x]) s = (x.1, false, (oneS l s).2.2 && ((oneS l s).2.1 || x.1 == (oneS l s).1)) := by
  induction l generalizing s with
  | nil => rfl
  | cons y l ih => simp only [List.cons_append, oneS]; exact ih _
theorem oneF_good (l : List KR) (k : Int) (f al : Bool) (h : ∀ y ∈ l, y.2 = 0) : oneF l k f al = if (oneS l (k, f, al)).2.2 then ((oneS l (k, f, al)).1, 0) else (0, 14) := by
  induction l generalizing k f al with
  | nil => rfl
  | cons y l ih =>
    have hy := h y (by simp)
    simp only [oneF, hy, ne_eq, not_true_eq_false, if_false, oneS]
    exact ih _ _ _ (fun z hz => h z (by simp [hz]))

def noE (l : List KR) : Prop := ∀ y ∈ l, y.2 = 0
def badE (l : List KR) (e : Int) : Prop := ∃ q x, l = q ++ [x] ∧ noE q ∧ x.2 = e ∧ e ≠ 0
set_option maxRecDepth 100000 in
set_option maxHeartbeats 4000000 in
theorem one_in (n : Nat) (hn : 3 ≤ n) (g : Nat) (lb : Array Value) (ks : List KR) (w : World) (hG : GivesK w g lb ks) :
    CallsIn Fence.wide n Try.prog 20 #[.func (.func g) #[] lb] w fun e W' => e = .returned (oneP ks).v ∧ Below w.heap.size w W' := by
  have h1 : 1 ≤ n := by omega
  have hro : Fence.wide.round = none := rfl
  obtain ⟨hE, hS⟩ := hG
  obtain ⟨W0, hW0⟩ : ∃ W0, W0 = ((((w.alloc (.cells #[.int .i64 0] 3)).alloc (.cells #[.nilIface] 32)).alloc (.cells #[.int .i64 0] 3)).alloc (.cells #[.bool true] 4)).alloc (.cells #[.bool true] 4) := ⟨_, rfl⟩
  refine callsIn_of_wp_marks Try.func20 rfl trivial ?_ rfl
  simp only [Try.ntmps20, List.size_toArray, List.length_cons, List.length_nil, Nat.reduceAdd, Nat.reduceSub, Array.replicate_succ, Array.replicate_zero, List.push_toArray, List.append_toArray, List.nil_append, List.cons_append]
  gi_wp2
  rw [← hW0]
  have x0 : Box W0 w.heap.size 3 #[.int .i64 0] := by rw [hW0]; exact ((((Box.new _ _ _).alloc _).alloc _).alloc _).alloc _
  have x1 : Box W0 (w.heap.size + 1) 32 #[.nilIface] := by
    have := Box.new (w.alloc (.cells #[.int .i64 0] 3)) 32 #[.nilIface]
    simp only [World.size_alloc] at this
    rw [hW0]; exact (((this).alloc _).alloc _).alloc _
  have x2 : Box W0 (w.heap.size + 1 + 1) 3 #[.int .i64 0] := by
    have := Box.new ((w.alloc (.cells #[.int .i64 0] 3)).alloc (.cells #[.nilIface] 32)) 3 #[.int .i64 0]
    simp only [World.size_alloc] at this
    rw [hW0]; exact ((this).alloc _).alloc _
  have x3 : Box W0 (w.heap.size + 1 + 1 + 1) 4 #[.bool true] := by
    have := Box.new (((w.alloc (.cells #[.int .i64 0] 3)).alloc (.cells #[.nilIface] 32)).alloc (.cells #[.int .i64 0] 3)) 4 #[.bool true]
    simp only [World.size_alloc] at this
    rw [hW0]; exact (this).alloc _
  have x4 : Box W0 (w.heap.size + 1 + 1 + 1 + 1) 4 #[.bool true] := by
    have := Box.new ((((w.alloc (.cells #[.int .i64 0] 3)).alloc (.cells #[.nilIface] 32)).alloc (.cells #[.int .i64 0] 3)).alloc (.cells #[.bool true] 4)) 4 #[.bool true]
    simp only [World.size_alloc] at this
    rw [hW0]; exact this
  have hsz : W0.heap.size = w.heap.size + 5 := by rw [hW0]; simp
  have hB0 : Below w.heap.size w W0 := by rw [hW0]; exact (((((Below.refl _ w).alloc (Nat.le_refl _) _).alloc (by simp) _).alloc (by simp; omega) _).alloc (by simp; omega) _).alloc (by simp; omega) _
  clear hW0
  refine wpIn_rangeFunc_ownG hro h1 (gf := g) (lb := lb) rfl trivial hE
    (hS (n - 1) _ (by omega) hB0) belowK_t (belowK_b (by omega)) (Below.refl _ _) (fun _ => rfl)
    (fun pre W => (Hid (noE pre) ∧ Box W w.heap.size 3 #[.int .i64 0] ∧ Box W (w.heap.size + 1) 32 #[.nilIface] ∧ Box W (w.heap.size + 1 + 1) 3 #[.int .i64 (oneS pre (0, true, true)).1] ∧ Box W (w.heap.size + 1 + 1 + 1) 4 #[.bool (oneS pre (0, true, true)).2.1] ∧ Box W (w.heap.size + 1 + 1 + 1 + 1) 4 #[.bool (oneS pre (0, true, true)).2.2]) ∧ Below w.heap.size w W)
    (fun c pre W => (c = .ret ∧ ∃ x : Int, Hid (badE pre x) ∧ Box W w.heap.size 3 #[.int .i64 0] ∧ Box W (w.heap.size + 1) 32 #[errV x]) ∧ Below w.heap.size w W)
    (OwnFrom.and (Own.from (fun s A B row hs hg hr => ⟨hs.1, box_own _ _ (fun _ => _) s A B row hs.2.1 hg hr, box_own _ _ (fun _ => _) s A B row hs.2.2.1 hg hr, box_own _ _ (fun _ => _) s A B row hs.2.2.2.1 hg hr, box_own _ _ (fun _ => _) s A B row hs.2.2.2.2.1 hg hr, box_own _ _ (fun _ => _) s A B row hs.2.2.2.2.2 hg hr⟩) _) (ownFrom_below (Nat.le_refl _) (by omega)))
    (fun c => OwnFrom.and (Own.from (fun s A B row hs hg hr => by obtain ⟨hs1, x, hs2, hs3, hs4⟩ := hs; exact ⟨hs1, x, hs2, box_own _ _ (fun _ => _) s A B row hs3 hg hr, box_own _ _ (fun _ => _) s A B row hs4 hg hr⟩) _) (ownFrom_below (Nat.le_refl _) (by omega)))
    ⟨⟨hide (fun y hy => by simp at hy), x0, x1, x2, x3, x4⟩, hB0⟩
    (fun x => { tmps := #[.func (.func g) #[] lb, undef, .pointer (some ⟨w.heap.size, 0, none⟩), .pointer (some ⟨w.heap.size + 1, 0, none⟩), .pointer (some ⟨w.heap.size + 1 + 1, 0, none⟩), .pointer (some ⟨w.heap.size + 1 + 1 + 1, 0, none⟩), .pointer (some ⟨w.heap.size + 1 + 1 + 1 + 1, 0, none⟩), .int .i64 x.1, errO x.2, .func (.func g) #[] lb, .int .i64 x.1, errO x.2, undef, undef, undef, undef, undef, undef, undef, undef, undef, undef, undef, undef, undef, undef, undef, undef, undef], defers := [] }) ?assign ?body ?done ?stop
  case assign =>
    intro l x W K hK
    gi_wp2
    exact hK
  case body =>
    rintro l pre x W ⟨⟨hp, b0, b1, b2, b3, b4⟩, hB⟩ hlt
    have h2 : 1 ≤ n - 1 - 1 := by omega
    obtain ⟨xk, xe⟩ := x
    dsimp only
    by_cases hx : xe = 0
    · subst hx
      have eO : errO 0 = .nilIface := rfl
      rw [eO]
      have hp1 := hide (show noE (pre ++ [((xk, 0) : KR)]) from fun y hy => by
        rcases List.mem_append.1 hy with h | h
        · exact unhide hp y h
        · rw [List.mem_singleton.1 h])
      have hS1 := oneS_snoc pre (xk, 0) (0, true, true)
      obtain ⟨⟨k0, f0, a0⟩, hS0⟩ : ∃ q, oneS pre (0, true, true) = q := ⟨_, rfl⟩
      rw [hS0] at hS1 b2 b3 b4
      obtain ⟨c20, c21⟩ := b2.one
      obtain ⟨c30, c31⟩ := b3.one
      obtain ⟨c40, c41⟩ := b4.one
      have fin : ∀ r : Bool, (a0 && (f0 || xk == k0)) = r → ∀ W', W' = ((W.setCell ⟨w.heap.size + 1 + 1 + 1 + 1, 0, none⟩ (.bool r)).setCell ⟨w.heap.size + 1 + 1, 0, none⟩ (.int .i64 xk)).setCell ⟨w.heap.size + 1 + 1 + 1, 0, none⟩ (.bool false) →
          KeepsFrom (w.heap.size + 5) W W' ∧ Below w.heap.size W W' ∧ (Hid (noE (pre ++ [((xk, 0) : KR)])) ∧ Box W' w.heap.size 3 #[.int .i64 0] ∧ Box W' (w.heap.size + 1) 32 #[.nilIface] ∧ Box W' (w.heap.size + 1 + 1) 3 #[.int .i64 (oneS (pre ++ [((xk, 0) : KR)]) (0, true, true)).1] ∧ Box W' (w.heap.size + 1 + 1 + 1) 4 #[.bool (oneS (pre ++ [((xk, 0) : KR)]) (0, true, true)).2.1] ∧ Box W' (w.heap.size + 1 + 1 + 1 + 1) 4 #[.bool (oneS (pre ++ [((xk, 0) : KR)]) (0, true, true)).2.2]) ∧ Below w.heap.size w W' := by
        rintro r hr W' rfl
        rw [hS1]
        dsimp only
        rw [hr]
        refine ⟨(((KeepsOthers.setCell _ _ _).trans (KeepsOthers.setCell _ _ _)).trans (KeepsOthers.setCell _ _ _)).from _, (((Below.refl _ _).setCell (p := ⟨w.heap.size + 1 + 1 + 1 + 1, 0, none⟩) (by simp only; omega) _).setCell (p := ⟨w.heap.size + 1 + 1, 0, none⟩) (by simp only; omega) _).setCell (p := ⟨w.heap.size + 1 + 1 + 1, 0, none⟩) (by simp only; omega) _, ⟨hp1, ?_, ?_, ?_, ?_, ?_⟩, ((hB.setCell (p := ⟨w.heap.size + 1 + 1 + 1 + 1, 0, none⟩) (by simp only; omega) _).setCell (p := ⟨w.heap.size + 1 + 1, 0, none⟩) (by simp only; omega) _).setCell (p := ⟨w.heap.size + 1 + 1 + 1, 0, none⟩) (by simp only; omega) _⟩
        · exact ((b0.other _ _ (by simp only; omega)).other _ _ (by simp only; omega)).other _ _ (by simp only; omega)
        · exact ((b1.other _ _ (by simp only; omega)).other _ _ (by simp only; omega)).other _ _ (by simp only; omega)
        · have := (((b2.other ⟨w.heap.size + 1 + 1 + 1 + 1, 0, none⟩ (.bool r) (by simp only; omega)).set 0 (.int .i64 xk)).other ⟨w.heap.size + 1 + 1 + 1, 0, none⟩ (.bool false) (by simp only; omega))
          simpa using this
        · have := ((b3.other ⟨w.heap.size + 1 + 1 + 1 + 1, 0, none⟩ (.bool r) (by simp only; omega)).other ⟨w.heap.size + 1 + 1, 0, none⟩ (.int .i64 xk) (by simp only; omega)).set 0 (.bool false)
          simpa using this
        · have := ((b4.set 0 (.bool r)).other ⟨w.heap.size + 1 + 1, 0, none⟩ (.int .i64 xk) (by simp only; omega)).other ⟨w.heap.size + 1 + 1 + 1, 0, none⟩ (.bool false) (by simp only; omega)
          simpa using this
      replace fin := hide fin
      clear hS1 hS0 hp1 b0 b1 b2 b3 b4 hp hlt
      cases a0
      · gi_wp2
        exact unhide fin false rfl _ rfl
      cases f0
      case true =>
        gi_wp2
        exact unhide fin true rfl _ rfl
      cases hz : (xk == k0)
      · rw [hz] at fin
        gi_wp2
        exact unhide fin false rfl _ rfl
      · rw [hz] at fin
        gi_wp2
        exact unhide fin true rfl _ rfl
    · have eO : errO xe = errV xe := by simp [errO, hx]
      rw [eO]
      have c0 := b0.one
      have c1 := b1.one
      have hbad := hide (show badE (pre ++ [((xk, xe) : KR)]) xe from ⟨pre, (xk, xe), rfl, unhide hp, rfl, hx⟩)
      obtain ⟨c00, c01⟩ := c0
      obtain ⟨c10, c11⟩ := c1
      gi_wp2
      refine ⟨((KeepsOthers.setCell _ _ _).trans (KeepsOthers.setCell _ _ _)).from _, ⟨rfl, xe, hbad, ?_, ?_⟩, (hB.setCell (p := ⟨w.heap.size, 0, none⟩) (by simp) _).setCell (p := ⟨w.heap.size + 1, 0, none⟩) (by simp) _⟩
      · have := (b0.set 0 (.int .i64 0)).other ⟨w.heap.size + 1, 0, none⟩ (errV xe) (by simp)
        simpa using this
      · have := (b1.other ⟨w.heap.size, 0, none⟩ (.int .i64 0) (by simp)).set 0 (errV xe)
        simpa using this
  case done =>
    rintro D ys W hD rfl ⟨⟨hne, b0, b1, b2, b3, b4⟩, hB⟩ hK
    have hr : oneP ys = if (oneS ys (0, true, true)).2.2 then ((oneS ys (0, true, true)).1, 0) else (0, 14) := oneF_good ys 0 true true (unhide hne)
    obtain ⟨⟨k0, f0, a0⟩, hS0⟩ : ∃ q, oneS ys (0, true, true) = q := ⟨_, rfl⟩
    rw [hS0] at hr b2 b3 b4
    obtain ⟨c00, c01⟩ := b0.one
    obtain ⟨c10, c11⟩ := b1.one
    obtain ⟨c20, c21⟩ := b2.one
    obtain ⟨c40, c41⟩ := b4.one
    clear hS0 hne
    cases a0
    · have hr2 : oneP ys = (0, 14) := hr
      clear hr
      gi_wp2
      obtain ⟨W9, hW9⟩ : ∃ W9, W9 = (W.setCell ⟨w.heap.size, 0, none⟩ (.int .i64 0)).setCell ⟨w.heap.size + 1, 0, none⟩ (errV 14) := ⟨_, rfl⟩
      rw [← hW9]
      have bb : Below w.heap.size w W9 := by rw [hW9]; exact (hB.setCell (p := ⟨w.heap.size, 0, none⟩) (by simp) _).setCell (p := ⟨w.heap.size + 1, 0, none⟩) (by simp) _
      have hK' : W9.heap[D]? = some (.deferred (some [])) := by rw [hW9]; exact ((KeepsOthers.setCell _ _ _).trans (KeepsOthers.setCell _ _ _)).same D _ hK rfl
      have b09 : Box W9 w.heap.size 3 #[.int .i64 0] := by
        have := (b0.set 0 (.int .i64 0)).other ⟨w.heap.size + 1, 0, none⟩ (errV 14) (by simp)
        rw [hW9]; simpa using this
      have b19 : Box W9 (w.heap.size + 1) 32 #[errV 14] := by
        have := (b1.other ⟨w.heap.size, 0, none⟩ (.int .i64 0) (by simp)).set 0 (errV 14)
        rw [hW9]; simpa using this
      refine ⟨by simp, .inl ⟨_, _, rfl, run_takeDeferred hK', ?_⟩⟩
      have r0 := (b09.put hK' rfl (.deferred none)).one.1
      have r1 := (b19.put hK' rfl (.deferred none)).one.1
      refine ⟨(KR.v (0, 14)), ?_, rfl, bb.trans (belowK_b (w := w) (Nat.le_refl _) _ D _ _ (by omega) hK' rfl rfl)⟩
      simp [results, Try.f20, go_sem, r0, r1, KR.v, encK, errO]
    · have hr2 : oneP ys = (k0, 0) := hr
      clear hr
      gi_wp2
      obtain ⟨W9, hW9⟩ : ∃ W9, W9 = (W.setCell ⟨w.heap.size, 0, none⟩ (.int .i64 k0)).setCell ⟨w.heap.size + 1, 0, none⟩ .nilIface := ⟨_, rfl⟩
      rw [← hW9]
      have bb : Below w.heap.size w W9 := by rw [hW9]; exact (hB.setCell (p := ⟨w.heap.size, 0, none⟩) (by simp) _).setCell (p := ⟨w.heap.size + 1, 0, none⟩) (by simp) _
      have hK' : W9.heap[D]? = some (.deferred (some [])) := by rw [hW9]; exact ((KeepsOthers.setCell _ _ _).trans (KeepsOthers.setCell _ _ _)).same D _ hK rfl
      have b09 : Box W9 w.heap.size 3 #[.int .i64 k0] := by
        have := (b0.set 0 (.int .i64 k0)).other ⟨w.heap.size + 1, 0, none⟩ .nilIface (by simp)
        rw [hW9]; simpa using this
      have b19 : Box W9 (w.heap.size + 1) 32 #[.nilIface] := by
        have := (b1.other ⟨w.heap.size, 0, none⟩ (.int .i64 k0) (by simp)).set 0 .nilIface
        rw [hW9]; simpa using this
      refine ⟨by simp, .inl ⟨_, _, rfl, run_takeDeferred hK', ?_⟩⟩
      have r0 := (b09.put hK' rfl (.deferred none)).one.1
      have r1 := (b19.put hK' rfl (.deferred none)).one.1
      refine ⟨(KR.v (k0, 0)), ?_, rfl, bb.trans (belowK_b (w := w) (Nat.le_refl _) _ D _ _ (by omega) hK' rfl rfl)⟩
      simp [results, Try.f20, go_sem, r0, r1, KR.v, encK, errO]
  case stop =>
    rintro D c pre W hD ⟨k, hk, rfl⟩ ⟨⟨rfl, x, hne, b0, b1⟩, hB⟩ hK
    gi_wp2
    refine ⟨by simp, .inl ⟨_, _, rfl, run_takeDeferred hK, ?_⟩⟩
    have r0 := (b0.put hK rfl (.deferred none)).one.1
    have r1 := (b1.put hK rfl (.deferred none)).one.1
    obtain ⟨q, y, e, hq, hy, hx⟩ := unhide hne
    have hr : oneP ks = (0, x) := by rw [← hy]; exact oneF_bad ks q y k 0 true true e.symm hq (by rw [hy]; exact hx)
    refine ⟨KR.v (0, x), ?_, by rw [hr], hB.trans (belowK_b (w := w) (Nat.le_refl _) W D _ _ (by omega) hK rfl rfl)⟩
    simp [results, Try.f20, go_sem, r0, r1, KR.v, encK, errO, hx]
theorem one_c (g : Nat) (lb : Array Value) (ks : List KR) (w : World) (hG : GivesK w g lb ks) :
    Calls Try.prog 20 #[.func (.func g) #[] lb] w fun e W' => e = .returned (oneP ks).v ∧ Below w.heap.size w W' :=
  callsIn_wide.1 (one_in 3 (Nat.le_refl _) g lb ks w hG)
end Go.Proofs.Ytllpigbmkhanjaa
