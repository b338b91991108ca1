/-
  A chain in memory (its first schema, its changes), and what the walk over its versions gives: each version with its schema, in memory that the walk made, till it is told to stop; for every schema that may be and at most 20 changes, in whatever world; nothing that lay is turned.
-/
import Derived.Test.YtcjpaldijngnpaaGreatDoorChApply
import Derived.Test.YtcjpaldijngnpaaGreatDoorTold
import Derived.Sort.CutIn
namespace Go.Proofs.YtcjpaldijngnpaaGreatDoor
open Go.RowKit Go.Shelf

attribute [local go_sem] Oper.semAt_some

/-- The slice at a has these changes, below n₀. -/
def Chs (n₀ : Nat) (W : World) (a : Option Addr) (cs : List Ch) : Prop :=
  cs = [] ∨ ∃ b off, a = some ⟨b, off, none⟩ ∧ b < n₀ ∧ ∀ j, j < cs.length → ∀ (i : Nat) u, (chn cs j).cs[i]? = some u → W.cell? ⟨b, off + j * 7 + i, none⟩ = some u
theorem Chs.keep {X : Nat → Prop} {n₀ : Nat} {A B : World} (hk : KeepC X A B) (hX : ∀ k, X k → n₀ ≤ k) {a : Option Addr} {cs : List Ch} : Chs n₀ A a cs → Chs n₀ B a cs
  | .inl e => .inl e
  | .inr ⟨b, off, e, hb, hc⟩ => .inr ⟨b, off, e, hb, fun j hj i u hu => hk.cell (hc j hj i u hu) (fun hx => by have := hX b hx; omega)⟩
theorem Chs.below {n₀ : Nat} {A B : World} (h : Below n₀ A B) {a : Option Addr} {cs : List Ch} : Chs n₀ A a cs → Chs n₀ B a cs
  | .inl e => .inl e
  | .inr ⟨b, off, e, hb, hc⟩ => .inr ⟨b, off, e, hb, fun j hj i u hu => (h.cell (p := ⟨b, off + j * 7 + i, none⟩) hb).trans (hc j hj i u hu)⟩
theorem Chs.mono {n₀ n₁ : Nat} (hn : n₀ ≤ n₁) {A : World} {a : Option Addr} {cs : List Ch} : Chs n₀ A a cs → Chs n₁ A a cs
  | .inl e => .inl e
  | .inr ⟨b, off, e, hb, hc⟩ => .inr ⟨b, off, e, by omega, hc⟩
theorem Flds.keepC {X : Nat → Prop} {n₀ : Nat} {A B : World} (hk : KeepC X A B) (hX : ∀ k, X k → n₀ ≤ k) {a : Option Addr} {fs : List Fd} : Flds n₀ A a fs → Flds n₀ B a fs
  | .inl e => .inl e
  | .inr ⟨b, off, e, hb, hc⟩ => .inr ⟨b, off, e, hb, fun j hj => ⟨hk.cell (hc j hj).1 (fun hx => by have := hX b hx; omega), hk.cell (hc j hj).2 (fun hx => by have := hX b hx; omega)⟩⟩
theorem Typs.keepC {X : Nat → Prop} {n₀ : Nat} {A B : World} (hk : KeepC X A B) (hX : ∀ k, X k → n₀ ≤ k) {a : Option Addr} {ts : List Ty} : Typs n₀ A a ts → Typs n₀ B a ts
  | .inl e => .inl e
  | .inr ⟨b, off, e, hb, hc⟩ => .inr ⟨b, off, e, hb, fun j hj => by
      obtain ⟨h1, a', c', h2, h3, h4⟩ := hc j hj
      exact ⟨hk.cell h1 (fun hx => by have := hX b hx; omega), a', c', hk.cell h2 (fun hx => by have := hX b hx; omega), h3.keepC hk hX, h4⟩⟩

theorem KeepC.set {X : Nat → Prop} (W : World) (b i : Nat) (v : Value) (hX : X b) : KeepC X W (W.setCell ⟨b, i, none⟩ v) := ⟨by simp, fun k o hx hk _ => (setCell_block _ _ _ (fun e => hx (by simp only at e; rw [← e]; exact hX))).trans hk⟩
theorem KeepC.mono {X Y : Nat → Prop} (h : ∀ k, X k → Y k) {A B : World} (hk : KeepC X A B) : KeepC Y A B := ⟨hk.size, fun k o hy => hk.same k o (fun hx => hy (h k hx))⟩
/-- A store into a box of another kind. -/
theorem OwnT.box {A : World} {base : Nat} {a : Option Addr} {c : Nat} {ts : List Ty} (h : OwnT base A a c ts) {b i : Nat} {t : TypeId} {cs : Array Value} (hb : Box A b t cs) (h1 : (69 : TypeId) ≠ t) (h2 : (66 : TypeId) ≠ t) (v : Value) : OwnT base (A.setCell ⟨b, i, none⟩ v) a c ts := by
  obtain ⟨xs, e1, e2, e3⟩ := h
  exact ⟨xs, e1, set_other e2 hb h1 v, fun x hx => set_other (e3 x hx) hb h2 v⟩
/-- The row lies below n₀. -/
def InRow (n₀ : Nat) (v : Value) : Prop := ∀ g, v.ownBlock = some g → g < n₀
theorem InRow.mono {n₀ n₁ : Nat} (h : n₀ ≤ n₁) {v : Value} (hi : InRow n₀ v) : InRow n₁ v := fun g hg => Nat.lt_of_lt_of_le (hi g hg) h
theorem inRow_of {W : World} {base : Nat} {e : TypeId} {size n : Nat} {v : Value} {xs : List Value} (h : W.ownsRow base e size v n xs) : InRow W.heap.size v := fun g hg => by
  obtain ⟨_, cur, hc⟩ := owns_lt h hg
  exact (Array.getElem?_eq_some_iff.1 hc).1
theorem KeepC.ownsIn {X : Nat → Prop} {A B : World} (h : KeepC X A B) {n₀ base : Nat} (hX : ∀ k, X k → n₀ ≤ k) {e : TypeId} {size n : Nat} {v : Value} {xs : List Value} (ho : A.ownsRow base e size v n xs) (hi : InRow n₀ v) : B.ownsRow base e size v n xs :=
  owns_keep ho fun g hg _ => by
    obtain ⟨_, cur, hc⟩ := owns_lt ho hg
    exact (h.same g _ (fun hx => by have := hX g hx; have := hi g hg; omega) hc rfl).trans hc.symm
/-- A schema in rows of their own, below n₀. -/
def OwnB (n₀ : Nat) (W : World) (a : Option Addr) (c : Nat) (ts : List Ty) : Prop := ∃ xs : List Tw, xs.map (·.1) = ts ∧ (W.ownsRow 0 69 2 (.slice a ts.length c) ts.length (newsT xs) ∧ InRow n₀ (.slice a ts.length c)) ∧ ∀ x ∈ xs, Tw.own 0 W x ∧ InRow n₀ (.slice x.2.1 x.1.2.length x.2.2)
theorem OwnT.in {W : World} {base : Nat} {a : Option Addr} {c : Nat} {ts : List Ty} (h : OwnT base W a c ts) : OwnB W.heap.size W a c ts := by
  obtain ⟨xs, h1, h2, h3⟩ := h
  exact ⟨xs, h1, ⟨owns_base (Nat.zero_le _) h2, inRow_of h2⟩, fun x hx => ⟨owns_base (Nat.zero_le _) (h3 x hx), inRow_of (h3 x hx)⟩⟩
theorem OwnB.keep {X : Nat → Prop} {n₀ : Nat} {A B : World} {a : Option Addr} {c : Nat} {ts : List Ty} (h : OwnB n₀ A a c ts) (hk : KeepC X A B) (hX : ∀ k, X k → n₀ ≤ k) : OwnB n₀ B a c ts := by
  obtain ⟨xs, h1, h2, h3⟩ := h
  exact ⟨xs, h1, ⟨hk.ownsIn hX h2.1 h2.2, h2.2⟩, fun x hx => ⟨hk.ownsIn hX (h3 x hx).1 (h3 x hx).2, (h3 x hx).2⟩⟩
theorem OwnB.on {n₀ : Nat} {A B : World} {a : Option Addr} {c : Nat} {ts : List Ty} (h : OwnB n₀ A a c ts) (hb : Below n₀ A B) : OwnB n₀ B a c ts := by
  obtain ⟨xs, h1, h2, h3⟩ := h
  exact ⟨xs, h1, ⟨owns_keep h2.1 fun g hg _ => hb.block g (h2.2 g hg), h2.2⟩, fun x hx => ⟨owns_keep (h3 x hx).1 fun g hg _ => hb.block g ((h3 x hx).2 g hg), (h3 x hx).2⟩⟩
theorem OwnB.mono {n₀ n₁ : Nat} (hn : n₀ ≤ n₁) {A : World} {a : Option Addr} {c : Nat} {ts : List Ty} (h : OwnB n₀ A a c ts) : OwnB n₁ A a c ts := by
  obtain ⟨xs, h1, h2, h3⟩ := h
  exact ⟨xs, h1, ⟨h2.1, h2.2.mono hn⟩, fun x hx => ⟨(h3 x hx).1, (h3 x hx).2.mono hn⟩⟩
theorem OwnB.box {n₀ : Nat} {A : World} {a : Option Addr} {c : Nat} {ts : List Ty} (h : OwnB n₀ A a c ts) {b i : Nat} {t : TypeId} {cs : Array Value} (hb : Box A b t cs) (h1 : (69 : TypeId) ≠ t) (h2 : (66 : TypeId) ≠ t) (v : Value) : OwnB n₀ (A.setCell ⟨b, i, none⟩ v) a c ts := by
  obtain ⟨xs, e1, e2, e3⟩ := h
  exact ⟨xs, e1, ⟨set_other e2.1 hb h1 v, e2.2⟩, fun x hx => ⟨set_other (e3 x hx).1 hb h2 v, (e3 x hx).2⟩⟩
theorem OwnB.typs {n₀ : Nat} {A : World} {a : Option Addr} {c : Nat} {ts : List Ty} (h : OwnB n₀ A a c ts) (h6 : ∀ t ∈ ts, t.2.length ≤ maxLen) : Typs n₀ A a ts := by
  obtain ⟨xs, h1, ⟨h2, h2'⟩, h3⟩ := h
  have hl : xs.length = ts.length := by rw [← h1, List.length_map]
  rcases h2.2 with ⟨e, h0⟩ | ⟨g, cap, cur, e, hbase, hg, _, _, _, htake⟩
  · exact .inl (List.length_eq_zero_iff.1 h0)
  · simp only [Value.slice.injEq, true_and] at e
    obtain ⟨rfl, rfl⟩ := e
    refine .inr ⟨g, 0, rfl, h2' g rfl, fun j hj => ?_⟩
    have e2 : ∀ i, i < ts.length * 2 → (cur.toList.take (ts.length * 2))[i]? = cur[i]? := fun i hi => by rw [List.getElem?_take, if_pos hi, Array.getElem?_toList]
    rw [htake] at e2
    have hjx : j < xs.length := by omega
    have q1 := e2 (j * 2) (by omega)
    have q2 := e2 (j * 2 + 1) (by omega)
    rw [(newsT_at xs j hjx).1] at q1
    rw [(newsT_at xs j hjx).2] at q2
    have et : ty ts j = xs[j].1 := by simp [ty, ← h1, hjx]
    have hm : xs[j] ∈ xs := List.getElem_mem hjx
    have hF : Flds n₀ A xs[j].2.1 xs[j].1.2 := by
      obtain ⟨ho, hi⟩ := h3 _ hm
      obtain ⟨a', c', e', hF, -⟩ := flds_of_owns ho
      simp only [Value.slice.injEq, true_and] at e'
      obtain ⟨e', -⟩ := e'
      rw [← e'] at hF
      rcases hF with h | ⟨b, off, eb, _, hc⟩
      · exact .inl h
      · refine .inr ⟨b, off, eb, ?_, hc⟩
        rcases ho.2 with ⟨ee, _⟩ | ⟨g', _, _, ee, _⟩
        · rw [eb] at ee; cases ee
        · have := hi g' (by rw [ee]; rfl)
          rw [eb] at ee
          simp only [Value.slice.injEq, Option.some.injEq, Addr.mk.injEq] at ee
          omega
    rw [et]
    exact ⟨by simp [World.cell?, hg, ← q1], xs[j].2.1, xs[j].2.2, by simp [World.cell?, hg, ← q2], hF, h6 _ (by rw [← h1]; exact List.mem_map_of_mem hm)⟩
/-- The changes, cell by cell. -/
def newsC (cs : List Ch) : List Value := cs.flatMap fun c => c.cs.toList
theorem newsC_len (cs : List Ch) : (newsC cs).length = cs.length * 7 := by
  induction cs with
  | nil => rfl
  | cons c l ih =>
    have e : newsC (c :: l) = c.cs.toList ++ newsC l := by simp [newsC]
    rw [e, List.length_append, ih]
    simp only [List.length_cons, List.length_nil]
    omega
theorem newsC_snoc (cs : List Ch) (c : Ch) : newsC (cs ++ [c]) = newsC cs ++ c.cs.toList := by simp [newsC]
theorem newsC_at (cs : List Ch) : ∀ j, j < cs.length → ∀ i, i < 7 → (newsC cs)[j * 7 + i]? = (chn cs j).cs[i]? := by
  induction cs with
  | nil => intro j hj; simp at hj
  | cons c l ih =>
    intro j hj i hi
    have hl7 : c.cs.toList.length = 7 := rfl
    cases j with
    | zero =>
      have e : newsC (c :: l) = c.cs.toList ++ newsC l := by simp [newsC]
      rw [e, Nat.zero_mul, Nat.zero_add, List.getElem?_append_left (by rw [hl7]; omega), Array.getElem?_toList]
      simp [chn]
    | succ j =>
      have := ih j (by simpa using hj) i hi
      have e : newsC (c :: l) = c.cs.toList ++ newsC l := by simp [newsC]
      rw [e, List.getElem?_append_right (by rw [hl7]; omega), hl7, show (j + 1) * 7 + i - 7 = j * 7 + i by omega, this]
      simp [chn]
theorem newsC_one (cs : List Ch) : ∀ u ∈ newsC cs, u.oneCell' = true := by
  intro u hu
  simp only [newsC, List.mem_flatMap] at hu
  obtain ⟨c, _, hc⟩ := hu
  simp only [List.mem_cons, List.not_mem_nil, or_false] at hc
  rcases hc with rfl | rfl | rfl | rfl | rfl | rfl | rfl <;> rfl
/-- The changes in a row of their own, below n₀. -/
def ChsB (n₀ : Nat) (W : World) (a : Option Addr) (c : Nat) (cs : List Ch) : Prop := W.ownsRow 0 42 7 (.slice a cs.length c) cs.length (newsC cs) ∧ InRow n₀ (.slice a cs.length c)
theorem ChsB.chs {n₀ : Nat} {W : World} {a : Option Addr} {c : Nat} {cs : List Ch} (h : ChsB n₀ W a c cs) : Chs n₀ W a cs := by
  rcases Nat.eq_zero_or_pos cs.length with h0 | h0
  · exact .inl (List.length_eq_zero_iff.1 h0)
  · obtain ⟨g, e, _, _, _, _, hc, _⟩ := owns_cells h.1 h0
    refine .inr ⟨g, 0, e, h.2 g (by rw [e]; rfl), fun j hj i u hu => ?_⟩
    have hi : i < 7 := by
      have := (Array.getElem?_eq_some_iff.1 hu).1
      simpa using this
    rw [Nat.zero_add, hc _ (by omega), newsC_at cs j hj i hi, hu]
/-- The chain at Bp: this schema, these changes, below n₀. -/
structure IsCh (n₀ : Nat) (W : World) (Bp : Nat) (a ac : Option Addr) (cap capc : Nat) (ts : List Ty) (cs : List Ch) : Prop where
  box : Box W Bp 76 #[.slice a ts.length cap, .slice ac cs.length capc]
  lt : Bp < n₀
  own : OwnB n₀ W a cap ts
  row : ChsB n₀ W ac capc cs
theorem IsCh.chs {n₀ : Nat} {W : World} {Bp : Nat} {a ac : Option Addr} {cap capc : Nat} {ts : List Ty} {cs : List Ch} (h : IsCh n₀ W Bp a ac cap capc ts cs) : Chs n₀ W ac cs := h.row.chs
theorem IsCh.keep {X : Nat → Prop} {n₀ : Nat} {A B : World} {Bp : Nat} {a ac : Option Addr} {cap capc : Nat} {ts : List Ty} {cs : List Ch} (h : IsCh n₀ A Bp a ac cap capc ts cs) (hk : KeepC X A B) (hX : ∀ k, X k → n₀ ≤ k) : IsCh n₀ B Bp a ac cap capc ts cs :=
  ⟨hk.box h.box (fun hx => by have := hX _ hx; have := h.lt; omega), h.lt, h.own.keep hk hX, hk.ownsIn hX h.row.1 h.row.2, h.row.2⟩
theorem IsCh.on {A B : World} {n₀ : Nat} {Bp : Nat} {a ac : Option Addr} {cap capc : Nat} {ts : List Ty} {cs : List Ch} (h : IsCh n₀ A Bp a ac cap capc ts cs) (hb : Below n₀ A B) : IsCh n₀ B Bp a ac cap capc ts cs :=
  ⟨h.box.on hb h.lt, h.lt, h.own.on hb, owns_keep h.row.1 fun g hg _ => hb.block g (h.row.2 g hg), h.row.2⟩
theorem IsCh.mono {A : World} {n₀ n₁ : Nat} (hn : n₀ ≤ n₁) {Bp : Nat} {a ac : Option Addr} {cap capc : Nat} {ts : List Ty} {cs : List Ch} (h : IsCh n₀ A Bp a ac cap capc ts cs) : IsCh n₁ A Bp a ac cap capc ts cs :=
  ⟨h.box, by have := h.lt; omega, h.own.mono hn, h.row.1, h.row.2.mono hn⟩

/-- What an iterator over versions may turn: its own box of a schema. -/
def okV (o : Obj) : Prop := o.isCells = false ∨ ∃ cs z, o = .cells cs 24 z
/-- A version's number, where its schema lies. -/
abbrev Vn := Nat × Option Addr × Nat
abbrev vnV (ts : List Ty) (cs : List Ch) (x : Vn) : Array Value := #[.int .i64 x.1, .agg #[.slice x.2.1 (vers ts cs x.1).length x.2.2]]
/-- An element as it is handed over. -/
def ElV (ts : List Ty) (cs : List Ch) (base : Nat) (pre : List Vn) (x : Vn) (W : World) : Prop := x.1 = pre.length ∧ pre.length ≤ cs.length ∧ OwnT base W x.2.1 x.2.2 (vers ts cs x.1)

set_option maxRecDepth 100000 in
set_option maxHeartbeats 8000000 in
theorem versions1_told (n : Nat) (hn : 1 ≤ n) (l Bs Bp n₀ cap capc : Nat) (a ac : Option Addr) (ts : List Ty) (cs : List Ch) (hS : Sch ts) (h20 : cs.length ≤ 20) (X : Nat → Prop) (J Jx : List Vn → World → Prop) (W : World) (hJ : OwnP okV W.heap.size J)
    (base : Nat) (hbase : base ≤ W.heap.size)
    (hY : ∀ pre x W1, J pre W1 → ElV ts cs base pre x W1 → YieldAt Fence.wide (n - 1) Tryz.prog l (vnV ts cs x) W1 fun e W' => (e = .returned (.bool true) ∧ J (pre ++ [x]) W' ∧ KeepC X W1 W') ∨ (e = .returned (.bool false) ∧ Jx (pre ++ [x]) W'))
    (hn₀ : n₀ ≤ W.heap.size) (hX : ∀ k, X k → n₀ ≤ k ∧ k < base) (hBs : Box W Bs 31 #[.pointer (some ⟨Bp, 0, none⟩)]) (hXs : ¬ X Bs) (hC : IsCh n₀ W Bp a ac cap capc ts cs) (h0 : J [] W) :
    CallsIn Fence.wide n Tryz.prog 75 #[.func (.yield l) #[] #[], .pointer (some ⟨Bs, 0, none⟩)] W fun e W' => (∃ v, e = .returned v) ∧ ((∃ xs, xs.length = cs.length + 1 ∧ J xs W') ∨ ∃ pre, Jx pre W') := by
  have hX0 : ∀ k, X k → n₀ ≤ k := fun k h => (hX k h).1
  have hX1 : ∀ k, X k → k < base := fun k h => (hX k h).2
  have hk5 := sch_hk5 hS
  obtain ⟨hp0, hp1⟩ := hC.box.two
  have hs0 := hBs.one.1
  have cC := hide (chCopied_c a cap ts hS.1 hk5 W ((hC.own.typs (sch_max hS)).mono hn₀))
  refine callsIn_of_wp Tryz.func75 rfl trivial ?_ rfl
  simp only [Tryz.ntmps75, List.size_toArray, List.length_cons, List.length_nil, Nat.reduceAdd, Nat.reduceSub, Array.replicate_succ, Array.replicate_zero, List.push_toArray, List.append_toArray, List.nil_append, List.cons_append]
  gi_wp2_with fail
  refine ⟨trivial, ?_⟩
  refine (callsIn_wide.2 (unhide cC)).mono ?_
  rintro e w1 ⟨a1, c1, rfl, ho1, hb1⟩
  clear cC hp0 hp1 hs0
  obtain ⟨w2, hw2⟩ : ∃ w2, w2 = w1.alloc (.cells #[.slice a1 ts.length c1] 24) := ⟨_, rfl⟩
  have b12 : Below w1.heap.size w1 w2 := by rw [hw2]; exact (Below.refl _ _).alloc (Nat.le_refl _) _
  have v3 : Box w2 w1.heap.size 24 #[.slice a1 ts.length c1] := by rw [hw2]; exact Box.new _ _ _
  have b2 := hb1.trans (b12.mono hb1.size)
  obtain ⟨hs0, -⟩ := (hBs.on b2 hBs.lt).one
  obtain ⟨hp0, hp1⟩ := (hC.on (b2.mono hn₀)).box.two
  gi_upto_region 1 with fail
  rw [← hw2]
  clear hw2
  have ho2 := hide ((ho1.on b12).base hbase)
  have J2 := hJ.below h0 b2
  have hs12 := b2.size
  gi_wp2_with fail
  gi_loopw [16] (fun i wr => ∃ (k : Nat) (pre : List Vn) (a' : Option Addr) (c' : Nat), k ≤ cs.length ∧ i = .int .i64 k ∧ Hid (pre.length = k ∧ OwnT base wr a' c' (vers ts cs k)) ∧ J pre wr ∧ Box wr w1.heap.size 24 #[.slice a' (vers ts cs k).length c'] ∧ KeepC (fun k => X k ∨ k = w1.heap.size) w2 wr) (fun i _ => cs.length - (intOf i).toNat)
  case atStart => exact ⟨0, [], a1, c1, Nat.zero_le _, rfl, hide ⟨rfl, unhide ho2⟩, J2, v3, KeepC.refl _ _⟩
  case round =>
    obtain ⟨k, pre, a', c', hk, rfl, hpre, hJs, v3', hkp⟩ := hrel
    clear hs0 hp0 hp1
    have hs1 := hb1.size
    have hXX : ∀ q, (X q ∨ q = w1.heap.size) → n₀ ≤ q := fun q h => by
      rcases h with h | rfl
      · exact hX0 q h
      · omega
    have hCr := (hC.on (b2.mono hn₀)).keep hkp hXX
    have hBr := hkp.box (hBs.on b2 hBs.lt) (fun h => by
      rcases h with h | h
      · exact hXs h
      · have := hBs.lt; omega)
    have hSk := sch_vers hS cs k
    have hv := v3'.one.1
    obtain ⟨hp0, hp1⟩ := hCr.box.two
    have hs0 := hBr.one.1
    have hbs : base ≤ w1.heap.size := by omega
    have hlr := v3'.lt
    by_cases hlt : k < cs.length
    · obtain ⟨b, off, eac, hb, hcs⟩ : ∃ b off, ac = some ⟨b, off, none⟩ ∧ b < n₀ ∧ ∀ (i : Nat) u, (chn cs k).cs[i]? = some u → wr.cell? ⟨b, off + k * 7 + i, none⟩ = some u := by
        rcases hCr.chs with h | ⟨b, off, e, hb, hc⟩
        · rw [h] at hlt; simp at hlt
        · exact ⟨b, off, e, hb, hc k hlt⟩
      obtain ⟨c, hc⟩ : ∃ c, c = chn cs k := ⟨_, rfl⟩
      rw [← hc] at hcs
      have hd0 := hcs 0 _ rfl
      have hd1 := hcs 1 _ rfl
      have hd2 := hcs 2 _ rfl
      have hd3 := hcs 3 _ rfl
      have hd4 := hcs 4 _ rfl
      have hd5 := hcs 5 _ rfl
      have hd6 := hcs 6 _ rfl
      rw [Nat.add_zero] at hd0
      clear hcs
      subst eac
      have bA : Below wr.heap.size wr (wr.alloc (.cells c.cs 42)) := (Below.refl _ _).alloc (Nat.le_refl _) _
      have oA := (unhide hpre).2.on bA
      have v5 := Box.new wr 42 c.cs
      obtain ⟨fn, tmps, assign, body, hy, hR⟩ := (hY pre (k, a', c') _ (hJ.below hJs bA) ⟨(unhide hpre).1.symm, by rw [(unhide hpre).1]; exact hk, oA⟩).mono
        (R' := fun e W' => ∃ bb : Bool, e = .returned (.bool bb) ∧ Hid ((bb = true ∧ J (pre ++ [(k, a', c')]) W' ∧ KeepC X (wr.alloc (.cells c.cs 42)) W') ∨ (bb = false ∧ Jx (pre ++ [(k, a', c')]) W')))
        (fun e W' h => by
          rcases h with ⟨rfl, h⟩ | ⟨rfl, h⟩
          · exact ⟨true, rfl, .inl ⟨rfl, h⟩⟩
          · exact ⟨false, rfl, .inr ⟨rfl, h⟩⟩)
      dsimp only [vnV] at hy
      replace hc := hide hc
      gi_wp2_with fail
      refine hR.mono ?_
      rintro e W3 ⟨bb, rfl, hbb⟩
      clear hR hy hd0 hd1 hd2 hd3 hd4 hd5 hd6 hv hp0 hp1 hs0
      rcases unhide hbb with ⟨rfl, hJ3, hk3⟩ | ⟨rfl, hJx3⟩
      · clear hbb
        have q3 := hk3.box (v3'.on bA v3'.lt) (fun h => by have := hX1 _ h; omega)
        have q5 := hk3.box v5 (fun h => by have := hX1 _ h; omega)
        have o3 := oA.keep hk3 hX1
        have hv := q3.one.1
        obtain ⟨hc0, hc1, hc2, hc3, hc4, hc5, hc6⟩ := q5.seven
        have cA := hide (apply_o a' c' (vers ts cs k) c hSk.1 (sch_hk5 hSk) W3 (o3.typs (sch_max hSk)))
        have hvs : appT (vers ts cs k) c = vers ts cs (k + 1) := by rw [vers_succ ts cs hlt, unhide hc]
        rw [hvs] at cA
        obtain ⟨EV, hEV⟩ : ∃ EV, EV = errE (refE (vers ts cs k) c) := ⟨_, rfl⟩
        rw [← hEV] at cA
        clear hEV hvs
        have sA := hk3.size
        gi_wp2_with fail
        refine ⟨trivial, ?_⟩
        refine (callsIn_wide.2 (unhide cA)).mono ?_
        rintro e W4 ⟨a4, c4, rfl, o4, hb4⟩
        clear cA hv hc0 hc1 hc2 hc3 hc4 hc5 hc6
        have r3 := q3.on hb4 q3.lt
        obtain ⟨hz0, hzf⟩ := r3.one
        have s4 := hb4.size
        have hl3 := q3.lt
        have sA' : wr.heap.size ≤ W3.heap.size := by have := bA.size; omega
        have o5 := hide (And.intro (show (pre ++ [(k, a', c')]).length = k + 1 by simp [(unhide hpre).1]) ((o4.base (base' := base) (by omega)).box (i := 0) r3 (by decide) (by decide) (.slice a4 (vers ts cs (k + 1)).length c4)))
        have r5 : Box (W4.setCell ⟨w1.heap.size, 0, none⟩ (.slice a4 (vers ts cs (k + 1)).length c4)) w1.heap.size 24 #[.slice a4 (vers ts cs (k + 1)).length c4] := r3.set 0 _
        have J5 := hJ.set (.slice a4 (vers ts cs (k + 1)).length c4) (hJ.below hJ3 hb4) (show W.heap.size ≤ w1.heap.size from hb1.size) r3 (.inr ⟨_, _, rfl⟩)
        have k5 := (hkp.on bA).trans ((hk3.mono (Y := fun q => X q ∨ q = w1.heap.size) (fun _ h => .inl h)).on hb4) |>.trans (KeepC.set W4 w1.heap.size 0 (.slice a4 (vers ts cs (k + 1)).length c4) (.inr rfl))
        clear o4 o3 hbs
        gi_wp2_with fail
        go_roundw
        case rel =>
          refine ⟨k + 1, ?_⟩
          first
            | exact ⟨pre ++ [(k, a', c')], a4, c4, by omega, by go_num, o5, J5, r5, k5⟩
            | exact ⟨by omega, by go_num, pre ++ [(k, a', c')], a4, c4, o5, J5, r5, k5⟩
        case measure => simp [intOf]; omega
      · clear hbb
        gi_wp2_with fail
        refine bodyPost_ret (results_none rfl _ _ _) rfl ?_
        exact ⟨⟨_, rfl⟩, .inr ⟨_, hJx3⟩⟩
    · obtain rfl : k = cs.length := by omega
      have hmx : Tryz.prog.follows .mixedOrders = true := by kernel_rfl
      have bA : Below wr.heap.size wr wr.drew := (Below.refl _ _).drew
      have oA := (unhide hpre).2.on bA
      obtain ⟨fn, tmps, assign, body, hy, hR⟩ := (hY pre (cs.length, a', c') wr.drew (hJ.below hJs bA) ⟨(unhide hpre).1.symm, by rw [(unhide hpre).1]; exact Nat.le_refl _, oA⟩).mono
        (R' := fun e W' => ∃ bb : Bool, e = .returned (.bool bb) ∧ Hid ((bb = true ∧ J (pre ++ [(cs.length, a', c')]) W') ∨ (bb = false ∧ Jx (pre ++ [(cs.length, a', c')]) W')))
        (fun e W' h => by
          rcases h with ⟨rfl, h⟩ | ⟨rfl, h⟩
          · exact ⟨true, rfl, .inl ⟨rfl, h.1⟩⟩
          · exact ⟨false, rfl, .inr ⟨rfl, h⟩⟩)
      dsimp only [vnV] at hy
      have hlen := hide (show (pre ++ [(cs.length, a', c')]).length = cs.length + 1 by simp [(unhide hpre).1])
      gi_wp2_with fail
      gi_region_with_o (refine hR.mono ?_; rintro e W3 ⟨bb, rfl, hbb⟩)
      all_goals
        gi_wp2_with fail
        go_end0
        refine ⟨⟨_, rfl⟩, ?_⟩
        rcases unhide hbb with ⟨rfl, hJ3⟩ | ⟨rfl, hJx3⟩
        · exact .inl ⟨_, unhide hlen, hJ3⟩
        · exact .inr ⟨_, hJx3⟩

end Go.Proofs.YtcjpaldijngnpaaGreatDoor
