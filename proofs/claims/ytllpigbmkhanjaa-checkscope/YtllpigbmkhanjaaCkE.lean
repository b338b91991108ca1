/-
  Package check: each element with those that its condition may name.
-/
import Derived.Test.YtllpigbmkhanjaaCkD
import Derived.OrdersIn
import Derived.Sort.CutIn
namespace Go.Proofs.Ytllpigbmkhanjaa
open Go.RowKit Go.Shelf

section
variable {n : Nat} {P : Program} {ops : Array Oper} {md : Region.Mode} {Q : Exit → Act → World → Prop}

/-- Nothing is deferred. -/
def noDefer (ops : Array Oper) : Bool := ops.all fun o => match o.op with | .defer _ => false | _ => true
theorem noDefer_spec (h : noDefer ops = true) (j : Nat) (o : Oper) (ho : ops[j]? = some o) (c : Call) : o.op ≠ .defer c := by
  intro e
  unfold noDefer at h
  rw [Array.all_eq_true'] at h
  have := h o (Array.mem_of_getElem? ho)
  rw [e] at this
  cases this
theorem rowsIn_wide {row : String} {args : Array Value} {w : World} {R : Value → World → Prop} (h : Rows P row args w R) : RowsIn Fence.wide n P row args w R := fun c cs _ => by
  obtain ⟨v, w', r, s⟩ := h c cs
  exact ⟨v, w', r, stepsIn_wide.2 s⟩

theorem wpOpIn_of (hnd : noDefer ops = true) (hno : ¬ LetsOut Q) {i : Nat} {K : Act → World → Prop} {a : Act} {w : World} (h : wpOp P ops Q i K a w) : wpOpIn Fence.wide n P ops Q i K a w := by
  unfold wpOp at h
  unfold wpOpIn
  cases hi : ops[i]? with
  | none => rw [hi] at h; exact h
  | some o =>
    rw [hi] at h
    dsimp only at h ⊢
    by_cases hw : Region.wanted o (yielded ops a.tmps) = true
    · rw [if_pos hw] at h ⊢
      rcases h with h | h
      · refine ⟨fun f _ => trivial, ?_⟩
        rw [Oper.semAt_eq _ _ _ (noDefer_spec hnd i o hi)]
        unfold Oper.wp at h
        revert h
        generalize (execOp a.eval o).run P w = res
        intro h
        rcases res with ⟨nx, w'⟩ | ⟨ht, w'⟩
        · cases nx with
          | value u => exact h
          | skip => exact h
          | defer d => exact h
          | enter f args => exact ⟨(fun h => nomatch h), callsIn_wide.2 h⟩
          | row row args => exact ⟨(fun h => nomatch h), rowsIn_wide h⟩
          | _ => exact h.elim
        · cases ht with
          | panic u => exact h
          | _ => exact h.elim
      · exact (hno h.2).elim
    · rw [if_neg hw] at h ⊢
      exact ⟨fun f _ => trivial, h⟩

theorem wpAnyIn_of_any (hnd : noDefer ops = true) (hno : ¬ LetsOut Q) : ∀ (fuel : Nat) (listed : Array Bool) (a : Act) (w : World), wpAny P md ops Q fuel listed a w → wpAnyIn Fence.wide n P md ops Q fuel listed a w
  | 0, _, _, _, h => h
  | fuel + 1, _, _, _, h => ⟨h.1, fun i hi => wpOpIn_of hnd hno (wpOp_mono (fun a' w' h' => wpAnyIn_of_any hnd hno fuel _ a' w' h') (h.2 i hi))⟩

/-- A region that draws, in a round. -/
theorem wpIn_region_plain {id : Nat} {a : Act} {w : World} (hm : P.follows .mixedOrders = true) (hnd : noDefer ops = true) (hno : ¬ LetsOut Q)
    (h : wpAny P .any ops Q ops.size (Array.replicate ops.size false) a { w with drawn := w.drawn + 1 }) : (Code.region id ops true).wpIn Fence.wide n P Q a w :=
  wpIn_region_any hm (wpAnyIn_of_any hnd hno _ _ _ _ h)

end

attribute [local go_sem] Oper.semAt_some

abbrev zeroM : Array Value := #[.string ⟨#[]⟩, .slice none 0 0, .bool false, .bool false, .int .i64 0, .int .i64 0, .int .i64 0, .string ⟨#[]⟩, .string ⟨#[]⟩, .string ⟨#[]⟩, .slice none 0 0]
theorem infoM : (Try.prog.info? 41).map (fun i => (i.zero, i.size, i.bytes)) = some (some (.agg zeroM), 11, 144) := by kernel_rfl
theorem info_parts {p : Option TypeInfo} {z : Value} {s b : Nat} (h : p.map (fun i => (i.zero, i.size, i.bytes)) = some (some z, s, b)) : ∃ i, p = some i ∧ i.zero = some z ∧ i.size = s ∧ i.bytes = b := by
  cases p with
  | none => cases h
  | some i => simp at h; exact ⟨i, rfl, h.1, h.2.1, h.2.2⟩
theorem news_box {W : World} {B : Nat} {t : TypeId} {cs : Array Value} (h : Box W B t cs) : ∀ j u, cs.toList[j]? = some u → W.cell? ((⟨B, 0, none⟩ : Addr).add j) = some u := fun j u hu => by
  rw [WideShapes.add_plain, Nat.zero_add]
  exact h.at j (by rw [← Array.getElem?_toList]; exact hu)
/-- An element's cells, as they are written. -/
structure Ew where
  e : Em
  p : Pl
abbrev Ew.cs (x : Ew) : Array Value := x.e.cs x.p
def newsE (l : List Ew) : List Value := l.flatMap fun x => x.cs.toList
theorem newsE_append (l k : List Ew) : newsE (l ++ k) = newsE l ++ newsE k := by simp [newsE]
theorem newsE_len (l : List Ew) : (newsE l).length = l.length * 11 := by
  induction l with
  | nil => rfl
  | cons x r ih => rw [newsE, List.flatMap_cons, List.length_append, show (r.flatMap fun x => x.cs.toList) = newsE r from rfl, ih]; simp; omega
theorem newsE_at (l : List Ew) : ∀ (j : Nat) x, l[j]? = some x → ∀ i, i < 11 → (newsE l)[j * 11 + i]? = x.cs[i]? := by
  induction l with
  | nil => intro j x hx; simp at hx
  | cons y r ih =>
    intro j x hx i hi
    rw [newsE, List.flatMap_cons]
    cases j with
    | zero =>
      simp at hx; subst hx
      rw [List.getElem?_append_left (by simp; omega)]
      simp
    | succ j =>
      rw [List.getElem?_append_right (by simp; omega)]
      have := ih j x (by simpa using hx) i hi
      rw [← this]
      congr 1
      simp; omega
theorem newsE_one (l : List Ew) : ∀ u ∈ newsE l, u.oneCell' = true := by
  intro u hu
  simp only [newsE, List.mem_flatMap] at hu
  obtain ⟨x, -, hx⟩ := hu
  simp only [List.mem_cons, List.not_mem_nil, or_false] at hx
  rcases hx with h | h | h | h | h | h | h | h | h | h | h <;> subst h <;> rfl


theorem owns_keep {W W' : World} {base : Nat} {e : TypeId} {size : Nat} {v : Value} {n : Nat} {xs : List Value} (h : W.ownsRow base e size v n xs) (hk : ∀ g, v.ownBlock = some g → g < W.heap.size → W'.heap[g]? = W.heap[g]?) : W'.ownsRow base e size v n xs := by
  refine ⟨h.1, ?_⟩
  rcases h.2 with h0 | ⟨g, cap, cur, rfl, hb, hg, hr⟩
  · exact .inl h0
  · exact .inr ⟨g, cap, cur, rfl, hb, (hk g rfl (Array.getElem?_eq_some_iff.1 hg).1).trans hg, hr⟩

theorem owns_below {W W' : World} {base : Nat} {e : TypeId} {size : Nat} {v : Value} {n : Nat} {xs : List Value} (h : W.ownsRow base e size v n xs) (hb : Below W.heap.size W W') : W'.ownsRow base e size v n xs :=
  owns_keep h fun g _ hg => hb.block g hg

theorem owns_base {W : World} {base base' : Nat} (hl : base' ≤ base) {e : TypeId} {size : Nat} {v : Value} {n : Nat} {xs : List Value} (h : W.ownsRow base e size v n xs) : W.ownsRow base' e size v n xs := by
  refine ⟨h.1, ?_⟩
  rcases h.2 with h0 | ⟨g, cap, cur, rfl, hb, hr⟩
  · exact .inl h0
  · exact .inr ⟨g, cap, cur, rfl, Nat.le_trans hl hb, hr⟩

theorem clip_c (a : Option Addr) (n cap : Nat) (hn : n ≤ cap) (w : World) : Calls Try.prog 30 #[.slice a n cap] w fun e w' => e = .returned (.slice a n n) ∧ w' = w := by
  go_enter Try.func30, Try.ntmps30
  go_wp2_with fail
  go_ret
  exact ⟨rfl, rfl⟩

/-- Old cells stay. -/
def KpS (A B : World) : Prop := A.heap.size ≤ B.heap.size ∧ Sm A.heap.size A B
theorem KpS.refl (A : World) : KpS A A := ⟨Nat.le_refl _, Sm.refl _ _⟩
theorem KpS.trans {A B C : World} (h : KpS A B) (k : KpS B C) : KpS A C := ⟨Nat.le_trans h.1 k.1, fun i o hi h1 h2 => k.2 i o (Nat.lt_of_lt_of_le hi h.1) (h.2 i o hi h1 h2) h2⟩
theorem KpS.of {A B : World} (h : Below A.heap.size A B) : KpS A B := ⟨h.size, Sm.of_below h⟩
theorem KpS.put (W : World) (l : Nat) (o o' : Obj) (hl : W.heap[l]? = some o) (ho : o.isCells = false) : KpS W (W.putObj l o') :=
  ⟨by simp, fun k q _ hk hq => (World.putObj_heap_other (fun e => by subst e; rw [hl] at hk; cases hk; rw [ho] at hq; cases hq)).trans hk⟩
theorem KpS.cell {A B : World} (h : KpS A B) {b i : Nat} {v : Value} (hc : A.cell? ⟨b, i, none⟩ = some v) : B.cell? ⟨b, i, none⟩ = some v := h.2.cell (cell_lt hc) hc
theorem KpS.box {A B : World} (h : KpS A B) {D : Nat} {t : TypeId} {cs : Array Value} (hx : Box A D t cs) : Box B D t cs := h.2 D _ hx.lt hx rfl

/-- An element, and those that its condition may name, as they lie. -/
structure Sc where
  e : Em
  p : Pl
  na : Option Addr
  cap : Nat
  nm : List Em
abbrev Sc.enc (x : Sc) : Array Value := #[x.e.v x.p, .slice x.na x.nm.length x.cap]
abbrev Sc.key (x : Sc) : Em × List Em := (x.e, x.nm)
def aheadP (l : List Em) : List Em := l.filter fun e => !e.nt
def scopesP (es : List Em) : List (Em × List Em) := es.mapIdx fun k e => (e, aheadP (es.take k) ++ [e])
theorem scopes_at (es : List Em) (k : Nat) : (scopesP es)[k]? = es[k]?.map fun e => (e, aheadP (es.take k) ++ [e]) := by simp [scopesP]
def ScEl (es : List Em) (pre : List Sc) (x : Sc) (W : World) : Prop := (EmIn W.heap.size W x.e x.p ∧ Ems W.heap.size W x.na x.nm) ∧ ∃ rest, pre.map Sc.key ++ x.key :: rest = scopesP es
theorem aheadP_snoc (es : List Em) (k : Nat) (e : Em) (h : es[k]? = some e) : aheadP (es.take (k + 1)) = if e.nt then aheadP (es.take k) else aheadP (es.take k) ++ [e] := by
  rw [List.take_add_one, h, Option.toList_some]
  cases hn : e.nt <;> simp [aheadP, hn]

/-- What lies ahead: a row of elements, somewhere. -/
def Ahd (n₀ : Nat) (W : World) (v : Value) (l : List Ew) : Prop :=
  (∃ a c, v = .slice a l.length c ∧ l.length ≤ c ∧ ((∃ g, a = some ⟨g, 0, none⟩ ∧ ∀ j u, (newsE l)[j]? = some u → W.cell? ⟨g, j, none⟩ = some u) ∨ (a = none ∧ l.length = 0))) ∧ ∀ (j : Nat) x, l[j]? = some x → EmIn n₀ W x.e x.p
theorem Ahd.kp {n₀ : Nat} {A B : World} (h : KpS A B) (hn : n₀ ≤ A.heap.size) {v : Value} {l : List Ew} (k : Ahd n₀ A v l) : Ahd n₀ B v l := by
  obtain ⟨⟨a, c, e, hl, h2⟩, h3⟩ := k
  refine ⟨⟨a, c, e, hl, ?_⟩, fun j x hx => (h3 j x hx).sm (fun k o hk => h.2 k o (Nat.lt_of_lt_of_le hk hn))⟩
  rcases h2 with ⟨b, eb, hc⟩ | h2
  · exact .inl ⟨b, eb, fun j u hu => h.cell (hc j u hu)⟩
  · exact .inr h2
theorem Ahd.ems {n₀ : Nat} {W : World} {v : Value} {l : List Ew} (k : Ahd n₀ W v l) (hn : n₀ ≤ W.heap.size) (hl : l.length ≤ 1000000) : ∃ a c, v = .slice a l.length c ∧ Ems W.heap.size W a (l.map Ew.e) := by
  obtain ⟨⟨a, c, e, -, h2⟩, h3⟩ := k
  refine ⟨a, c, e, by simpa using hl, ?_⟩
  rcases h2 with ⟨g, eg, hc⟩ | ⟨-, h0⟩
  · by_cases h0 : l = []
    · exact .inl (by rw [h0]; rfl)
    refine .inr ⟨g, 0, fun j => ((l[j]?).map Ew.p).getD ⟨none, 0, none, 0⟩, eg, ?_, fun j e he => ?_⟩
    · cases l with
      | nil => exact absurd rfl h0
      | cons x r => exact cell_lt (hc 0 _ (by rw [← Nat.zero_mul 11, ← Nat.add_zero (0 * 11), newsE_at _ 0 x rfl 0 (by decide)]; rfl))
    rw [List.getElem?_map] at he
    obtain ⟨x, hx, rfl⟩ := Option.map_eq_some_iff.1 he
    simp only [hx, Option.map_some, Option.getD_some]
    refine ⟨fun i u hu => ?_, (h3 j x hx).mono hn⟩
    have h11 : i < 11 := by have := (Array.getElem?_eq_some_iff.1 hu).1; simpa using this
    rw [Nat.zero_add]
    exact hc _ u ((newsE_at l j x hx i h11).trans hu)
  · exact .inl (by rw [List.eq_nil_of_length_eq_zero h0]; rfl)
theorem Ahd.own {n₀ base : Nat} {W : World} {v : Value} {l : List Ew} (h : W.ownsRow base 41 11 v l.length (newsE l)) (hk : ∀ (j : Nat) x, l[j]? = some x → EmIn n₀ W x.e x.p) : Ahd n₀ W v l := by
  refine ⟨?_, hk⟩
  rcases h.2 with ⟨e, h0⟩ | ⟨g, cap', cur, e, hb, hg, hr, -⟩
  · exact ⟨none, 0, by rw [e, h0], by omega, .inr ⟨rfl, h0⟩⟩
  · subst e
    refine ⟨_, cap', rfl, hr, .inl ⟨g, rfl, fun j u hu => ?_⟩⟩
    have := h.cells (g := g) rfl j u hu
    rwa [WideShapes.add_plain, Nat.zero_add] at this

set_option maxRecDepth 100000 in
set_option maxHeartbeats 8000000 in
theorem scopes1_in (n : Nat) (hn : 1 ≤ n) (l Bl n₀ b off cap : Nat) (es : List Em) (f : Nat → Pl) (hl : es.length ≤ 1000000)
    (J Jx : List Sc → World → Prop)
    (hal : ∀ pre W W', J pre W → Below W.heap.size W W' → J pre W')
    (hY : ∀ pre x W, J pre W → ScEl es pre x W → YieldAt Fence.wide (n - 1) Try.prog l x.enc W fun e W' =>
      (e = .returned (.bool true) ∧ J (pre ++ [x]) W' ∧ KpS W W') ∨ (e = .returned (.bool false) ∧ Jx (pre ++ [x]) W'))
    (W : World) (hn₀ : n₀ ≤ W.heap.size) (_hb : b < n₀)
    (hc0 : ∀ (j : Nat) e, es[j]? = some e → (∀ (i : Nat) u, (e.cs (f j))[i]? = some u → W.cell? ⟨b, off + j * 11 + i, none⟩ = some u) ∧ EmIn n₀ W e (f j))
    (xl : Box W Bl 42 #[.slice (some ⟨b, off, none⟩) es.length cap]) (h0 : J [] W) :
    CallsIn Fence.wide n Try.prog 29 #[.func (.yield l) #[] #[], .pointer (some ⟨Bl, 0, none⟩)] W fun e W' => (∃ v, e = .returned v) ∧
      ((∃ xs, xs.map Sc.key = scopesP es ∧ J xs W') ∨ ∃ pre, (∃ rest, pre.map Sc.key ++ rest = scopesP es) ∧ Jx pre W') := by
  have hx0 := xl.one.1
  refine callsIn_of_wp Try.func29 rfl trivial ?_ rfl
  simp only [Try.ntmps29, List.size_toArray, List.length_cons, List.length_nil, Nat.reduceAdd, Nat.reduceSub, Array.replicate_succ, Array.replicate_zero, List.push_toArray, List.append_toArray, List.nil_append, List.cons_append]
  have hmx : Try.prog.follows .mixedOrders = true := by kernel_rfl
  obtain ⟨i0, hi0, hz0, hz1, hz2⟩ := info_parts infoM
  replace hc0 := hide hc0
  gi_wp2_with fail
  gi_loopw [9, 3] (fun i v3 wr => ∃ (k : Nat) (pre : List Sc) (ah : List Ew), k ≤ es.length ∧ i = .int .i64 k ∧ Hid (pre.map Sc.key = (scopesP es).take k) ∧ J pre wr ∧ KpS W wr ∧ ah.map Ew.e = aheadP (es.take k) ∧ Hid (Ahd n₀ wr v3 ah))
    (fun i _ _ => es.length - (intOf i).toNat)
  case atStart => exact ⟨0, [], [], Nat.zero_le _, rfl, hide rfl, h0, KpS.refl _, rfl, hide ⟨⟨none, 0, rfl, Nat.le_refl _, .inr ⟨rfl, rfl⟩⟩, fun j x hx => by simp at hx⟩⟩
  case round =>
    obtain ⟨k, pre, ah, hk, rfl, hpre, hJs, hnx, hah, hA⟩ := hrel
    by_cases hlt : k < es.length
    · obtain ⟨e, he⟩ : ∃ e, es[k]? = some e := ⟨_, List.getElem?_eq_getElem hlt⟩
      obtain ⟨hcs, hin⟩ := unhide hc0 k e he
      have hst := hide (aheadP_snoc es k e he)
      have hsk := hide (show (scopesP es)[k]? = some (e, aheadP (es.take k) ++ [e]) by rw [scopes_at, he]; rfl)
      clear he
      generalize f k = p at hcs hin
      have hin := hin.sm (B := wr) (fun k o hk => hnx.2 k o (Nat.lt_of_lt_of_le hk hn₀))
      have hinW := hide hin
      clear hin
      have hwr : n₀ ≤ wr.heap.size := Nat.le_trans hn₀ hnx.1
      obtain ⟨⟨ac, cc, rfl, hcc, hfull⟩, hAin⟩ := unhide hA
      have hA0 := hide hAin
      have hF := hide (show Full wr ac ah.length 11 (newsE ah) from ⟨newsE_len ah, by
        rcases hfull with ⟨g, eg, hc⟩ | h
        · exact .inl ⟨_, eg, fun j u hu => by rw [WideShapes.add_plain, Nat.zero_add]; exact hc j u hu⟩
        · exact .inr h⟩)
      have hcc := hide hcc
      have hfull' := hide hfull
      clear hfull hAin hA
      have hahl : ah.length ≤ k := by
        have := congrArg List.length hah
        have h2 : (aheadP (es.take k)).length ≤ k := Nat.le_trans (List.length_filter_le _ _) (by simp; omega)
        simp at this; omega
      obtain ⟨al, tsE, pl, nt, t⟩ := e
      obtain ⟨ta, tcap, ka, kc⟩ := p
      replace hcs : ∀ (i : Nat) u, (Em.cs ⟨al, tsE, pl, nt, t⟩ ⟨ta, tcap, ka, kc⟩)[i]? = some u → wr.cell? ⟨b, off + k * 11 + i, none⟩ = some u := fun i u hu => hnx.cell (hcs i u hu)
      have hd0 := hcs 0 _ rfl
      have hd1 := hcs 1 _ rfl
      have hd2 := hcs 2 _ rfl
      have hd3 := hcs 3 _ rfl
      have hd4 := hcs 4 _ rfl
      have hd5 := hcs 5 _ rfl
      have hd6 := hcs 6 _ rfl
      have hd7 := hcs 7 _ rfl
      have hd8 := hcs 8 _ rfl
      have hd9 := hcs 9 _ rfl
      have hd10 := hcs 10 _ rfl
      rw [Nat.add_zero] at hd0
      clear hcs
      obtain ⟨Wk, hWk⟩ : ∃ Wk, Wk = wr.alloc (.cells (Em.cs ⟨al, tsE, pl, nt, t⟩ ⟨ta, tcap, ka, kc⟩) 41) := ⟨_, rfl⟩
      have bk : Below wr.heap.size wr Wk := by rw [hWk]; exact (Below.refl _ _).alloc (Nat.le_refl _) _
      have xk : Box Wk wr.heap.size 41 (Em.cs ⟨al, tsE, pl, nt, t⟩ ⟨ta, tcap, ka, kc⟩) := by rw [hWk]; exact Box.new _ _ _
      have hkl : (k : Int) < es.length := by omega
      have JV := hide (hal _ _ _ hJs bk)
      obtain ⟨D, hD⟩ : ∃ D, D = wr.heap.size := ⟨_, rfl⟩
      replace hah := hide hah
      clear hJs
      gi_upto_region 4 with fail
      rw [← hWk]
      rw [← hD] at xk ⊢
      clear hWk hd0 hd1 hd2 hd3 hd4 hd5 hd6 hd7 hd8 hd9 hd10
      replace hD := hide hD
      gi_cut [6] from 28 (fun v6 wc => Hid (wc.ownsRow n₀ 41 11 v6 (ah.length + 1) (newsE ah ++ (Em.cs ⟨al, tsE, pl, nt, t⟩ ⟨ta, tcap, ka, kc⟩).toList)) ∧ Hid (Below Wk.heap.size Wk wc))
      case first =>
        have bd : Below Wk.heap.size Wk Wk.drew := (Below.refl _ _).drew
        have cD : Box Wk.drew D 41 (Em.cs ⟨al, tsE, pl, nt, t⟩ ⟨ta, tcap, ka, kc⟩) := xk.drew
        have hFd := hide (((unhide hF).on bk (fun p v h => cell_lt h)).on bd (fun p v h => cell_lt h))
        refine wpIn_region_any hmx (wpAnyIn_of_any (by kernel_rfl) ?no _ _ _ _ (wpAny_of_Z (z := 5) (C := fun w' => Box w' D 41 (Em.cs ⟨al, tsE, pl, nt, t⟩ ⟨ta, tcap, ka, kc⟩)) _ _ _ _ ?_))
        case no => intro hlo; obtain ⟨a, w, h⟩ := hlo; obtain ⟨⟨v, hv⟩, -⟩ := h; cases hv
        obtain ⟨V, hV⟩ : ∃ V, V = Wk.drew := ⟨_, rfl⟩
        rw [show ({ heap := Wk.heap, tape := Wk.tape, drawn := Wk.drawn + 1, os := Wk.os, output := Wk.output } : World) = V from hV.symm]
        rw [← hV] at bd cD hFd
        clear hV xk
        refine wpAnyZ_reads 0 cD (by kernel_rfl) (by kernel_rfl) (by kernel_rfl) (by kernel_rfl) (fun d _ _ _ _ h => by cases d <;> exact h) (fun oi ho K hK => ?_)
        simp only [List.getElem?_toArray, List.getElem?_cons_zero, Option.some.injEq] at ho
        subst ho
        rw [if_pos (by kernel_rfl)]
        refine ⟨.slice ac ah.length cc, fun w' hw' => ?_, hK _ ?_⟩
        · obtain ⟨hq0, hq1, hq2, hq3, hq4, hq5, hq6, hq7, hq8, hq9, hq10⟩ := Box.eleven hw'
          go_simp
        clear hK K
        refine wpAnyZ_reads 2 cD (by kernel_rfl) (by kernel_rfl) (by kernel_rfl) (by kernel_rfl) (fun d _ _ _ _ h => by cases d <;> exact h) (fun oi ho K hK => ?_)
        simp only [List.getElem?_toArray, List.getElem?_cons_succ, List.getElem?_cons_zero, Option.some.injEq] at ho
        subst ho
        rw [if_pos (by kernel_rfl)]
        refine ⟨Em.v ⟨al, tsE, pl, nt, t⟩ ⟨ta, tcap, ka, kc⟩, fun w' hw' => ?_, hK _ ?_⟩
        · obtain ⟨hq0, hq1, hq2, hq3, hq4, hq5, hq6, hq7, hq8, hq9, hq10⟩ := Box.eleven hw'
          go_simp
        clear hK K
        refine wpAnyZ_two 1 3 (by kernel_rfl) (fun oi ho K hK => ?_) (fun oi ho K hK => ?_)
        · simp only [List.getElem?_toArray, List.getElem?_cons_succ, List.getElem?_cons_zero, Option.some.injEq] at ho
          subst ho
          go_simp
          refine (clip_c ac ah.length cc (unhide hcc) V).mono ?_
          rintro e w1 ⟨rfl, rfl⟩
          go_simp
          refine hK _ _ (.inr cD) ?_
          clear hK K
          refine wpAnyZ_calls 3 (by kernel_rfl) (fun oi ho K hK => ?_)
          simp only [List.getElem?_toArray, List.getElem?_cons_succ, List.getElem?_cons_zero, Option.some.injEq] at ho
          subst ho
          have bF0 : Below w1.heap.size w1 (w1.alloc (.cells (Em.cs ⟨al, tsE, pl, nt, t⟩ ⟨ta, tcap, ka, kc⟩) 41)) := (Below.refl _ _).alloc (Nat.le_refl _) _
          have cE : Box (w1.alloc (.cells (Em.cs ⟨al, tsE, pl, nt, t⟩ ⟨ta, tcap, ka, kc⟩) 41)) D 41 (Em.cs ⟨al, tsE, pl, nt, t⟩ ⟨ta, tcap, ka, kc⟩) := cD.alloc _
          have hnw := hide (news_box (Box.new w1 41 (Em.cs ⟨al, tsE, pl, nt, t⟩ ⟨ta, tcap, ka, kc⟩)))
          have hF2 := hide ((unhide hFd).on bF0 (fun p v h => cell_lt h))
          have bF := bd.trans (bF0.mono bd.size)
          go_simp
          refine hK _ _ (.inr cE) ?_
          clear hK K
          obtain ⟨nb, hnb⟩ : ∃ nb, nb = w1.heap.size := ⟨_, rfl⟩
          rw [← hnb] at hnw ⊢
          obtain ⟨V2, hV2⟩ : ∃ V2, V2 = w1.alloc (.cells (Em.cs ⟨al, tsE, pl, nt, t⟩ ⟨ta, tcap, ka, kc⟩) 41) := ⟨_, rfl⟩
          rw [← hV2] at cE hnw hF2 bF ⊢
          clear hV2 hnb bF0
          refine wpAnyZ_calls 4 (by kernel_rfl) (fun oi ho K hK => ?_)
          simp only [List.getElem?_toArray, List.getElem?_cons_succ, List.getElem?_cons_zero, Option.some.injEq] at ho
          subst ho
          refine step_full V2 (by rfl) (.tmp 14) (.tmp 16) 42 (by rfl) 41 i0 (.agg zeroM) 11 144 Try.underlying42 hi0 hz0 hz1 hz2 (by rfl) ac ah.length (newsE ah) ?q1 (unhide hF2) ⟨nb, 0, none⟩ 1 1 (Em.cs ⟨al, tsE, pl, nt, t⟩ ⟨ta, tcap, ka, kc⟩).toList ?q2 (by rfl) (unhide hnw) (by decide) (by unfold maxLen; omega) (by omega) ?_
          case q1 => go_simp
          case q2 => go_simp
          intro v1 w5 ho5 hb5
          refine hK _ _ (.inr (Box.on cE hb5 cE.lt)) ?_
          clear hK K
          refine wpAnyZ_calls 5 (by kernel_rfl) (fun oi ho K hK => ?_)
          simp only [List.getElem?_toArray, List.getElem?_cons_succ, List.getElem?_cons_zero, Option.some.injEq] at ho
          subst ho
          go_simp
          refine hK _ _ (.inl rfl) ?_
          clear hK K
          refine wpAnyZ_done (by kernel_rfl) ?_ _
          have bw5 := bF.trans (hb5.mono bF.size)
          replace ho5 := hide (owns_base (Nat.le_trans hwr (Nat.le_trans bk.size bF.size)) ho5)
          replace bw5 := hide bw5
          gi_wp2_with fail
          gi_meet
          exact ⟨ho5, bw5⟩
        · simp only [List.getElem?_toArray, List.getElem?_cons_succ, List.getElem?_cons_zero, Option.some.injEq] at ho
          subst ho
          have bF0 : Below V.heap.size V (V.alloc (.cells (Em.cs ⟨al, tsE, pl, nt, t⟩ ⟨ta, tcap, ka, kc⟩) 41)) := (Below.refl _ _).alloc (Nat.le_refl _) _
          have cE : Box (V.alloc (.cells (Em.cs ⟨al, tsE, pl, nt, t⟩ ⟨ta, tcap, ka, kc⟩) 41)) D 41 (Em.cs ⟨al, tsE, pl, nt, t⟩ ⟨ta, tcap, ka, kc⟩) := cD.alloc _
          have hnw := hide (news_box (Box.new V 41 (Em.cs ⟨al, tsE, pl, nt, t⟩ ⟨ta, tcap, ka, kc⟩)))
          have hF2 := hide ((unhide hFd).on bF0 (fun p v h => cell_lt h))
          have bF := bd.trans (bF0.mono bd.size)
          go_simp
          refine hK _ _ (.inr cE) ?_
          clear hK K
          obtain ⟨nb, hnb⟩ : ∃ nb, nb = V.heap.size := ⟨_, rfl⟩
          rw [← hnb] at hnw ⊢
          obtain ⟨V2, hV2⟩ : ∃ V2, V2 = V.alloc (.cells (Em.cs ⟨al, tsE, pl, nt, t⟩ ⟨ta, tcap, ka, kc⟩) 41) := ⟨_, rfl⟩
          rw [← hV2] at cE hnw hF2 bF ⊢
          clear hV2 hnb bF0
          refine wpAnyZ_calls 1 (by kernel_rfl) (fun oi ho K hK => ?_)
          simp only [List.getElem?_toArray, List.getElem?_cons_succ, List.getElem?_cons_zero, Option.some.injEq] at ho
          subst ho
          go_simp
          refine (clip_c ac ah.length cc (unhide hcc) V2).mono ?_
          rintro e w1 ⟨rfl, rfl⟩
          go_simp
          refine hK _ _ (.inr cE) ?_
          clear hK K
          refine wpAnyZ_calls 4 (by kernel_rfl) (fun oi ho K hK => ?_)
          simp only [List.getElem?_toArray, List.getElem?_cons_succ, List.getElem?_cons_zero, Option.some.injEq] at ho
          subst ho
          refine step_full w1 (by rfl) (.tmp 14) (.tmp 16) 42 (by rfl) 41 i0 (.agg zeroM) 11 144 Try.underlying42 hi0 hz0 hz1 hz2 (by rfl) ac ah.length (newsE ah) ?q1 (unhide hF2) ⟨nb, 0, none⟩ 1 1 (Em.cs ⟨al, tsE, pl, nt, t⟩ ⟨ta, tcap, ka, kc⟩).toList ?q2 (by rfl) (unhide hnw) (by decide) (by unfold maxLen; omega) (by omega) ?_
          case q1 => go_simp
          case q2 => go_simp
          intro v1 w5 ho5 hb5
          refine hK _ _ (.inr (Box.on cE hb5 cE.lt)) ?_
          clear hK K
          refine wpAnyZ_calls 5 (by kernel_rfl) (fun oi ho K hK => ?_)
          simp only [List.getElem?_toArray, List.getElem?_cons_succ, List.getElem?_cons_zero, Option.some.injEq] at ho
          subst ho
          go_simp
          refine hK _ _ (.inl rfl) ?_
          clear hK K
          refine wpAnyZ_done (by kernel_rfl) ?_ _
          have bw5 := bF.trans (hb5.mono bF.size)
          replace ho5 := hide (owns_base (Nat.le_trans hwr (Nat.le_trans bk.size bF.size)) ho5)
          replace bw5 := hide bw5
          gi_wp2_with fail
          gi_meet
          exact ⟨ho5, bw5⟩
      case rest =>
        obtain ⟨ho, hbw⟩ := hcut
        have bW : Below wr.heap.size wr wc := bk.trans ((unhide hbw).mono bk.size)
        have J1 := hide (hal _ _ _ (unhide JV) (unhide hbw))
        have xc : Box wc D 41 (Em.cs ⟨al, tsE, pl, nt, t⟩ ⟨ta, tcap, ka, kc⟩) := xk.on (unhide hbw) xk.lt
        have kwc := hnx.trans (KpS.of bW)
        obtain ⟨na, hna⟩ : ∃ na : List Ew, na = ah ++ [⟨⟨al, tsE, pl, nt, t⟩, ⟨ta, tcap, ka, kc⟩⟩] := ⟨_, rfl⟩
        have hcn : newsE na = newsE ah ++ (Em.cs ⟨al, tsE, pl, nt, t⟩ ⟨ta, tcap, ka, kc⟩).toList := by rw [hna, newsE_append]; simp [newsE]
        have hnl : na.length = ah.length + 1 := by rw [hna]; simp
        have hnE : na.map Ew.e = aheadP (es.take k) ++ [⟨al, tsE, pl, nt, t⟩] := by rw [hna, List.map_append, unhide hah]; rfl
        have smr : Sm n₀ wr wc := Sm.of_below (bW.mono hwr)
        have inc : EmIn n₀ wc ⟨al, tsE, pl, nt, t⟩ ⟨ta, tcap, ka, kc⟩ := (unhide hinW).sm smr
        have A1 : Ahd n₀ wc u6 na := Ahd.own (by rw [hnl, hcn]; exact unhide ho) (by
          intro j x hx
          rw [hna] at hx
          rcases Nat.lt_or_ge j ah.length with h | h
          · rw [List.getElem?_append_left h] at hx; exact (unhide hA0 j x hx).sm smr
          · rw [List.getElem?_append_right h] at hx
            have := List.mem_of_getElem? hx
            rw [List.mem_singleton] at this
            rw [this]; exact inc)
        have A0 : Ahd n₀ wc (.slice ac ah.length cc) ah := Ahd.kp (KpS.of bW) hwr ⟨⟨ac, cc, rfl, unhide hcc, unhide hfull'⟩, unhide hA0⟩
        have hszc : n₀ ≤ wc.heap.size := Nat.le_trans hwr bW.size
        obtain ⟨an, cn, e6, emn⟩ := A1.ems hszc (by omega)
        obtain ⟨X, hX⟩ : ∃ X : Sc, X = ⟨⟨al, tsE, pl, nt, t⟩, ⟨ta, tcap, ka, kc⟩, an, cn, na.map Ew.e⟩ := ⟨_, rfl⟩
        have hel := hide (show ScEl es pre X wc from by
          rw [hX]; exact ⟨⟨inc.mono hszc, emn⟩, (scopesP es).drop (k + 1), by
          have h1 := unhide hsk
          have h2 := List.take_append_drop (k + 1) (scopesP es)
          rw [List.take_add_one, h1, Option.toList_some, ← unhide hpre, ← hnE, List.append_assoc] at h2
          exact h2⟩)
        have hp1 := hide (show (pre ++ [X]).map Sc.key = (scopesP es).take (k + 1) by
          rw [List.map_append, unhide hpre, List.take_add_one, unhide hsk, hX, ← hnE]; rfl)
        have hsp := hide (show ∃ rest, (pre ++ [X]).map Sc.key ++ rest = scopesP es from ⟨(scopesP es).drop (k + 1), by rw [unhide hp1]; exact List.take_append_drop _ _⟩)
        obtain ⟨fn, tmps, assign, body, hy, hR⟩ := (hY pre X wc (unhide J1) (unhide hel)).mono
          (R' := fun e W' => ∃ bb : Bool, e = .returned (.bool bb) ∧ Hid ((bb = true ∧ J (pre ++ [X]) W' ∧ KpS wc W') ∨ (bb = false ∧ Jx (pre ++ [X]) W')))
          (fun e W' h => by
            rcases h with ⟨rfl, h⟩ | ⟨rfl, h⟩
            · exact ⟨true, rfl, .inl ⟨rfl, h⟩⟩
            · exact ⟨false, rfl, .inr ⟨rfl, h⟩⟩)
        have e6' : u6 = .slice an (na.map Ew.e).length cn := by rw [e6]; simp
        obtain ⟨nl, hnl'⟩ : ∃ nl, nl = (na.map Ew.e).length := ⟨_, rfl⟩
        rw [← hnl'] at e6'
        subst e6'
        rw [show X.enc = #[Em.v ⟨al, tsE, pl, nt, t⟩ ⟨ta, tcap, ka, kc⟩, .slice an nl cn] by rw [hX, hnl']] at hy
        replace hnl' := hide hnl'
        replace A1 := hide A1
        replace A0 := hide A0
        replace hnE := hide hnE
        obtain ⟨q0, q1, q2, q3, q4, q5, q6, q7, q8, q9, q10⟩ := xc.eleven
        dsimp only at q0 q1 q2 q3 q4 q5 q6 q7 q8 q9 q10
        replace hnl := hide hnl
        replace hna := hide hna
        clear hcn e6 hel J1 JV emn ho hF hcc hX
        gi_wp2_with fail
        refine hR.mono ?_
        rintro e W3 ⟨bb, rfl, hbb⟩
        rcases unhide hbb with ⟨rfl, hJ3, hk3⟩ | ⟨rfl, hJx3⟩
        · clear hbb hR hy q0 q1 q2 q3 q4 q5 q6 q7 q8 q9 q10
          have x3 := hk3.box xc
          have q3 := x3.at 3 (v := .bool nt) rfl
          have k3 := hide (kwc.trans hk3)
          have A3 := hide ((unhide A1).kp hk3 hszc)
          have A4 := hide ((unhide A0).kp hk3 hszc)
          have hJ3 := hide hJ3
          clear x3 xc kwc A1 A0 hk3
          cases nt
          · have hst2 := unhide hst
            simp only [Bool.false_eq_true, if_false] at hst2
            rw [← unhide hnE] at hst2
            replace hst2 := hide hst2
            gi_wp2_with fail
            go_roundw
            case rel => exact ⟨k + 1, pre ++ [X], na, by omega, by go_num, hp1, unhide hJ3, unhide k3, (unhide hst2).symm, A3⟩
            case measure => simp [intOf]; omega
          · have hst2 := unhide hst
            simp only [if_true] at hst2
            replace hst2 := hide hst2
            gi_wp2_with fail
            go_roundw
            case rel => exact ⟨k + 1, pre ++ [X], ah, by omega, by go_num, hp1, unhide hJ3, unhide k3, (unhide hah).trans (unhide hst2).symm, A4⟩
            case measure => simp [intOf]; omega
        · clear hbb hR hy
          gi_wp2_with fail
          refine bodyPost_ret (results_none rfl _ _ _) rfl ?_
          exact ⟨⟨_, rfl⟩, .inr ⟨_, unhide hsp, hJx3⟩⟩
    · have hke := hide (show pre.map Sc.key = scopesP es by rw [unhide hpre]; exact List.take_of_length_le (by simp [scopesP]; omega))
      gi_wp2_with fail
      go_end0
      exact ⟨⟨_, rfl⟩, .inl ⟨pre, unhide hke, hJs⟩⟩

set_option maxRecDepth 100000 in
set_option maxHeartbeats 1000000 in
theorem scopes1_nil_in (n : Nat) (l Bl : Nat) (a : Option Addr) (cap : Nat) (J : List Sc → World → Prop) (W : World) (xl : Box W Bl 42 #[.slice a 0 cap]) (h0 : J [] W) :
    CallsIn Fence.wide n Try.prog 29 #[.func (.yield l) #[] #[], .pointer (some ⟨Bl, 0, none⟩)] W fun e W' => (∃ v, e = .returned v) ∧ J [] W' := by
  have hx0 := xl.one.1
  refine callsIn_of_wp Try.func29 rfl trivial ?_ rfl
  simp only [Try.ntmps29, List.size_toArray, List.length_cons, List.length_nil, Nat.reduceAdd, Nat.reduceSub, Array.replicate_succ, Array.replicate_zero, List.push_toArray, List.append_toArray, List.nil_append, List.cons_append]
  gi_wp2_with fail
  gi_loopw [9] (fun i wr => i = .int .i64 0 ∧ J [] wr) (fun _ _ => 0)
  case atStart => exact ⟨rfl, h0⟩
  case round =>
    obtain ⟨rfl, hJs⟩ := hrel
    gi_wp2_with fail
    go_end0
    exact ⟨⟨_, rfl⟩, hJs⟩

/-- The function value that gives each element and those that it may name. -/
theorem scopes_c (a : Option Addr) (cap : Nat) (es : List Em) (w : World) (hE : Ems w.heap.size w a es) :
    Calls Try.prog 18 #[.slice a es.length cap] w fun r W' => ∃ B, r = .returned (.func (.func 29) #[] #[.pointer (some ⟨B, 0, none⟩)]) ∧ Below w.heap.size w W' ∧
      ∀ n, 1 ≤ n → SeqTold okN Fence.wide n Try.prog 29 #[.pointer (some ⟨B, 0, none⟩)] Sc.enc KpS (ScEl es) (fun xs => xs.map Sc.key = scopesP es) (fun pre => ∃ rest, pre.map Sc.key ++ rest = scopesP es) W' := by
  obtain ⟨W1, hW1⟩ : ∃ W1, W1 = w.alloc (.cells #[.slice a es.length cap] 42) := ⟨_, rfl⟩
  have b1 : Below w.heap.size w W1 := by rw [hW1]; exact (Below.refl _ _).alloc (Nat.le_refl _) _
  have x1 : Box W1 w.heap.size 42 #[.slice a es.length cap] := by rw [hW1]; exact Box.new _ _ _
  have e1 := hE.on b1
  replace hW1 := hide hW1
  go_enter Try.func18, Try.ntmps18
  go_wp2_with fail
  go_ret
  rw [← unhide hW1]
  refine ⟨w.heap.size, rfl, b1, fun n hn1 => ?_⟩
  intro l J Jx V hV hJ hJx hY h0
  have hsz := hV.size
  have eV := e1.sm (Sm.of_below hV)
  rcases eV.2 with h | ⟨b, off, f, rfl, hb, hc⟩
  · subst h
    refine (scopes1_nil_in n l w.heap.size a cap J V (x1.on hV x1.lt) h0).mono ?_
    rintro e W' ⟨he, hj⟩
    exact ⟨he, .inl ⟨[], rfl, hj⟩⟩
  · exact scopes1_in n hn1 l w.heap.size W1.heap.size b off cap es f eV.1 J Jx (fun pre A B h k => hJ.below h k) (fun pre x A hA hel => (hY pre x A hA hel).mono (fun e W' h => h.2)) V hsz hb hc (x1.on hV x1.lt) h0
end Go.Proofs.Ytllpigbmkhanjaa
