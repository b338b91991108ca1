/-
  A schema in memory that a call made (its types in a row of its own, each type's fields in a row of its own); and what package chain's copied makes of a schema: such a one; for every schema of at most 5 types of at most 5 fields, in whatever world; nothing that lay is turned.
-/
import Derived.Test.YtcjpaldijngnpaaGreatDoorApply
import Derived.Deep.CutRange
import Derived.Deep.DeepCutAuto
namespace Go.Proofs.YtcjpaldijngnpaaGreatDoor
open Go.RowKit Go.Shelf

/-- All blocks of cells but these lie as they lay. -/
structure KeepC (X : Nat → Prop) (A B : World) : Prop where
  size : A.heap.size ≤ B.heap.size
  same : ∀ k o, ¬ X k → A.heap[k]? = some o → o.isCells = true → B.heap[k]? = some o
theorem KeepC.refl (X : Nat → Prop) (A : World) : KeepC X A A := ⟨Nat.le_refl _, fun _ _ _ h _ => h⟩
theorem KeepC.trans {X : Nat → Prop} {A B C : World} (h : KeepC X A B) (k : KeepC X B C) : KeepC X A C := ⟨Nat.le_trans h.size k.size, fun i o hx hi ho => k.same i o hx (h.same i o hx hi ho) ho⟩
theorem KeepC.below {X : Nat → Prop} {A B : World} (h : Below A.heap.size A B) : KeepC X A B := ⟨h.size, fun k _ _ hk _ => (h.block k (Array.getElem?_eq_some_iff.1 hk).1).trans hk⟩
theorem KeepC.on {X : Nat → Prop} {A B C : World} (h : KeepC X A B) (k : Below B.heap.size B C) : KeepC X A C := h.trans (KeepC.below k)
theorem KeepC.put {X : Nat → Prop} (W : World) {l : Nat} {o : Obj} (hl : W.heap[l]? = some o) (ho : o.isCells = false) (o' : Obj) : KeepC X W (W.putObj l o') :=
  ⟨by simp, fun k q _ hk hq => (World.putObj_heap_other (fun e => by subst e; rw [hl] at hk; cases hk; rw [ho] at hq; cases hq)).trans hk⟩
theorem KeepC.box {X : Nat → Prop} {A B : World} (h : KeepC X A B) {b : Nat} {t : TypeId} {cs : Array Value} (hb : Box A b t cs) (hX : ¬ X b) : Box B b t cs := h.same b _ hX hb rfl
theorem KeepC.owns {X : Nat → Prop} {A B : World} (h : KeepC X A B) {base : Nat} (hX : ∀ k, X k → k < base) {e : TypeId} {size n : Nat} {v : Value} {xs : List Value} (ho : A.ownsRow base e size v n xs) : B.ownsRow base e size v n xs :=
  owns_keep ho fun g hg _ => by
    obtain ⟨hb, cur, hc⟩ := owns_lt ho hg
    exact (h.same g _ (fun hx => by have := hX g hx; omega) hc rfl).trans hc.symm
theorem KeepC.cell {X : Nat → Prop} {A B : World} (h : KeepC X A B) {b : Nat} {i : Nat} {v : Value} (hc : A.cell? ⟨b, i, none⟩ = some v) (hX : ¬ X b) : B.cell? ⟨b, i, none⟩ = some v := by
  have e : B.heap[b]? = A.heap[b]? := by
    simp only [World.cell?] at hc
    cases ho : A.heap[b]? with
    | none => simp [ho] at hc
    | some o =>
      cases o with
      | cells cs t z => exact h.same b _ hX ho rfl
      | _ => simp [ho] at hc
  exact (World.cell?_of_block (a := ⟨b, i, none⟩) e).trans hc

/-- A schema in memory that a call made. -/
def OwnT (base : Nat) (W : World) (a : Option Addr) (c : Nat) (ts : List Ty) : Prop := ∃ xs : List Tw, xs.map (·.1) = ts ∧ W.ownsRow base 69 2 (.slice a ts.length c) ts.length (newsT xs) ∧ ∀ x ∈ xs, Tw.own base W x
theorem OwnT.keep {X : Nat → Prop} {A B : World} {base : Nat} {a : Option Addr} {c : Nat} {ts : List Ty} (h : OwnT base A a c ts) (hk : KeepC X A B) (hX : ∀ k, X k → k < base) : OwnT base B a c ts := by
  obtain ⟨xs, h1, h2, h3⟩ := h
  exact ⟨xs, h1, hk.owns hX h2, fun x hx => hk.owns hX (h3 x hx)⟩
theorem OwnT.on {A B : World} {base : Nat} {a : Option Addr} {c : Nat} {ts : List Ty} (h : OwnT base A a c ts) (hb : Below A.heap.size A B) : OwnT base B a c ts := h.keep (X := fun _ => False) (KeepC.below hb) (fun _ h => h.elim)
theorem OwnT.base {A : World} {base base' : Nat} (hl : base' ≤ base) {a : Option Addr} {c : Nat} {ts : List Ty} (h : OwnT base A a c ts) : OwnT base' A a c ts := by
  obtain ⟨xs, h1, h2, h3⟩ := h
  exact ⟨xs, h1, owns_base hl h2, fun x hx => owns_base hl (h3 x hx)⟩
theorem OwnT.typs {A : World} {base : Nat} {a : Option Addr} {c : Nat} {ts : List Ty} (h : OwnT base A a c ts) (h6 : ∀ t ∈ ts, t.2.length ≤ maxLen) : Typs A.heap.size A a ts := by
  obtain ⟨xs, h1, h2, h3⟩ := h
  have hl : xs.length = ts.length := by rw [← h1, List.length_map]
  obtain ⟨a', c', e, hT⟩ := typs_of_owns (by rw [hl]; exact h2) h3 (fun x hx => h6 _ (by rw [← h1]; exact List.mem_map_of_mem hx))
  simp only [Value.slice.injEq] at e
  obtain ⟨rfl, -, -⟩ := e
  rw [h1] at hT
  exact hT
theorem OwnT.set {A : World} {base : Nat} {a : Option Addr} {c : Nat} {ts : List Ty} (h : OwnT base A a c ts) (p : Addr) (u : Value) (hp : p.block < base) : OwnT base (A.setCell p u) a c ts := by
  obtain ⟨xs, h1, h2, h3⟩ := h
  exact ⟨xs, h1, owns_set h2 p u hp, fun x hx => owns_set (h3 x hx) p u hp⟩

theorem newsT_one (xs : List Tw) : ∀ u ∈ newsT xs, u.oneCell' = true := by
  intro u hu
  simp only [newsT, List.mem_flatMap, List.mem_cons, List.not_mem_nil, or_false] at hu
  obtain ⟨x, _, rfl | rfl⟩ := hu <;> rfl
/-- One cell more in its place. -/
theorem owns_put {W : World} {base g c : Nat} {e : TypeId} {size n : Nat} {xs : List Value} (h : W.ownsRow base e size (.slice (some ⟨g, 0, none⟩) n c) n xs) (i : Nat) (u : Value) :
    (W.setCell ⟨g, i, none⟩ u).ownsRow base e size (.slice (some ⟨g, 0, none⟩) n c) n (xs.set i u) := by
  obtain ⟨hl, h2⟩ := h
  rcases h2 with ⟨e', _⟩ | ⟨g', c', cur, e', hb, hg, hnc, hcm, hcs, ht⟩
  · cases e'
  · simp only [Value.slice.injEq, Option.some.injEq, Addr.mk.injEq, true_and, and_true] at e'
    obtain ⟨rfl, rfl⟩ := e'
    have hbx : Box W g e cur := hg
    refine ⟨by rw [List.length_set]; exact hl, .inr ⟨g, c, _, rfl, hb, hbx.set i u, hnc, hcm, by simpa using hcs, ?_⟩⟩
    rw [Array.toList_setIfInBounds, ← ht, List.take_set]
theorem newsT_set (xs : List Tw) (p : Nat) (hp : p < xs.length) (x : Tw) : newsT (xs.set p x) = ((newsT xs).set (p * 2) (.string x.1.1.1)).set (p * 2 + 1) (.slice x.2.1 x.1.2.length x.2.2) := by
  induction xs generalizing p with
  | nil => simp at hp
  | cons a l ih =>
    cases p with
    | zero => simp [newsT]
    | succ p =>
      have := ih p (by simpa using hp)
      simp only [newsT, List.set_cons_succ, List.flatMap_cons, List.cons_append, List.nil_append] at this ⊢
      rw [this, show (p + 1) * 2 = p * 2 + 1 + 1 by omega]
      simp
/-- The fields laid elsewhere. -/
theorem newsT_fields (xs : List Tw) (p : Nat) (hp : p < xs.length) (a : Option Addr) (c : Nat) : newsT (xs.set p (xs[p].1, a, c)) = (newsT xs).set (p * 2 + 1) (.slice a xs[p].1.2.length c) := by
  rw [newsT_set xs p hp]
  have h := (newsT_at xs p hp).1
  congr 1
  apply List.ext_getElem?
  intro i
  rw [List.getElem?_set]
  split
  · next e =>
    subst e
    rw [if_pos (by rw [newsT_len]; omega), h]
  · rfl
/-- Other rows lie as they lay. -/
theorem set_other {W : World} {base : Nat} {e e' : TypeId} {size : Nat} {v : Value} {n : Nat} {xs : List Value} (h : W.ownsRow base e size v n xs) {g i : Nat} {cs : Array Value} (hg : W.heap[g]? = some (.cells cs e' (0, 0))) (hne : e ≠ e') (u : Value) : (W.setCell ⟨g, i, none⟩ u).ownsRow base e size v n xs :=
  owns_keep h fun q hq _ => setCell_block _ _ _ fun eq => by
    simp only at eq
    obtain ⟨_, cur, h1⟩ := owns_lt h hq
    rw [← eq, hg] at h1
    cases h1
    exact hne rfl
/-- Types that lie somewhere, with where their fields lie. -/
theorem typs_tw {n b off : Nat} {W : World} {ts : List Ty} (hc : ∀ j, j < ts.length → W.cell? ⟨b, off + j * 2, none⟩ = some (.string (ty ts j).1.1) ∧ ∃ a' c', W.cell? ⟨b, off + j * 2 + 1, none⟩ = some (.slice a' (ty ts j).2.length c') ∧ Flds n W a' (ty ts j).2 ∧ (ty ts j).2.length ≤ maxLen) :
    ∃ xs : List Tw, xs.map (·.1) = ts ∧ (∀ x ∈ xs, Flds n W x.2.1 x.1.2) ∧ ∀ j u, (newsT xs)[j]? = some u → W.cell? ((⟨b, off, none⟩ : Addr).add j) = some u := by
  have hch : ∀ j, ∃ p : Option Addr × Nat, j < ts.length → W.cell? ⟨b, off + j * 2 + 1, none⟩ = some (.slice p.1 (ty ts j).2.length p.2) ∧ Flds n W p.1 (ty ts j).2 := fun j => by
    by_cases h : j < ts.length
    · obtain ⟨_, a', c', h1, h2, _⟩ := hc j h
      exact ⟨(a', c'), fun _ => ⟨h1, h2⟩⟩
    · exact ⟨(none, 0), fun h' => (h h').elim⟩
  obtain ⟨F, hF⟩ := Classical.axiomOfChoice hch
  obtain ⟨xs, hxs⟩ : ∃ xs : List Tw, xs = (List.range ts.length).map fun j => (ty ts j, F j) := ⟨_, rfl⟩
  have hl : xs.length = ts.length := by rw [hxs]; simp
  have hat : ∀ j (h : j < xs.length), xs[j] = (ty ts j, F j) := fun j h => by simp [hxs]
  refine ⟨xs, ?_, fun x hx => ?_, fun j u hu => ?_⟩
  · rw [hxs, List.map_map]
    refine List.ext_getElem (by simp) fun j h1 h2 => ?_
    simp [ty, h2]
  · obtain ⟨j, hj, rfl⟩ := List.getElem_of_mem hx
    rw [hat j hj]
    exact (hF j (by omega)).2
  · have hj : j < ts.length * 2 := by
      have := (List.getElem?_eq_some_iff.1 hu).1
      rw [newsT_len, hl] at this
      exact this
    rw [WideShapes.add_plain]
    have hk : j / 2 < xs.length := by omega
    rcases Nat.mod_two_eq_zero_or_one j with h | h
    · have e : j = j / 2 * 2 := by omega
      rw [e] at hu ⊢
      rw [(newsT_at xs _ hk).1, hat _ hk] at hu
      rw [← hu]
      exact (hc _ (by omega)).1
    · have e : j = j / 2 * 2 + 1 := by omega
      rw [e] at hu ⊢
      rw [(newsT_at xs _ hk).2, hat _ hk] at hu
      rw [← hu]
      exact (hF _ (by omega)).1

theorem cloneF_o (a : Option Addr) (cap : Nat) (fs : List Fd) (h5 : fs.length ≤ 5) (w : World) (hF : Flds w.heap.size w a fs) :
    Calls Tryz.prog 58 #[.slice a fs.length cap] w fun e w' => ∃ a' c', e = .returned (.slice a' fs.length c') ∧ w'.ownsRow w.heap.size 66 2 (.slice a' fs.length c') fs.length (newsF fs) ∧ Below w.heap.size w w' := by
  obtain ⟨i0, hi, hz0, hz1, hz2⟩ := info_parts infoFd
  have heq : ∀ (w : World) (n c : Nat), (binOp .eql 67 (.slice a n c) (.slice none 0 0)).run Tryz.prog w = .ok (.bool a.isNone) w := fun w n c => Lib.run_eql_slice_nil w 67 66 a n c 0 0 Tryz.underlying67
  cases a with
  | none =>
    have e0 : fs = [] := by
      rcases hF with h | ⟨b, off, e, _⟩
      · exact h
      · cases e
    subst e0
    go_enter Tryz.func58, Tryz.ntmps58
    go_wp2_with fail
    go_ret
    exact ⟨_, _, rfl, World.ownsRow_nil _ _ _ _, Below.refl _ _⟩
  | some ad =>
    have b0 : Below w.heap.size w (w.alloc (.cells #[] 66)) := (Below.refl _ _).alloc (Nat.le_refl _) _
    have ho : (w.alloc (.cells #[] 66)).ownsRow w.heap.size 66 2 (.slice (some ⟨w.heap.size, 0, none⟩) 0 0) 0 [] := ⟨rfl, .inr ⟨w.heap.size, 0, #[], rfl, Nat.le_refl _, World.alloc_heap_new w _, Nat.le_refl _, Nat.zero_le _, rfl, rfl⟩⟩
    have hnews : ∀ j u, (newsF fs)[j]? = some u → (w.alloc (.cells #[] 66)).cell? (ad.add j) = some u := by
      rcases hF.below b0 with rfl | ⟨b, off, e, _, hc⟩
      · intro j u h; simp [newsF] at h
      · cases e; exact newsF_cells hc
    have hnews := hide hnews
    have hln := hide (newsF_len fs)
    have h1 := hide (newsF_one fs)
    have hF := hide hF
    go_enter Tryz.func58, Tryz.ntmps58
    go_wp2_with (at_builtin; go_must (refine wpList_append_own _ rfl _ _ 67 rfl w.heap.size 66 i0 (.agg #[.string ⟨#[]⟩, .int .i64 0]) 2 24 Tryz.underlying67 hi hz0 hz1 hz2 rfl (by decide) (.slice (some ⟨w.heap.size, 0, none⟩) 0 0) 0 [] rfl ho ad fs.length cap (newsF fs) rfl (unhide hln) (unhide hnews) (unhide h1) (by unfold maxLen; omega) (by omega) (by simp) ?_); intro v' w2 hown hgrow _)
    rw [Nat.zero_add, List.nil_append] at hown
    obtain ⟨a', c', rfl, hF', hnw⟩ := flds_of_owns hown
    go_wp2_with fail
    go_ret
    exact ⟨a', c', rfl, hown, b0.grown hgrow (by simp) (fun k e => by cases e; exact Nat.le_refl _)⟩

theorem cloneT_o (a : Option Addr) (cap : Nat) (ts : List Ty) (h5 : ts.length ≤ 5) (w : World) (hT : Typs w.heap.size w a ts) :
    Calls Tryz.prog 57 #[.slice a ts.length cap] w fun e w' => ∃ a' c' xs, e = .returned (.slice a' ts.length c') ∧ (xs.map (·.1) = ts ∧ ∀ x ∈ xs, Flds w.heap.size w x.2.1 x.1.2) ∧ w'.ownsRow w.heap.size 69 2 (.slice a' ts.length c') ts.length (newsT xs) ∧ Below w.heap.size w w' := by
  obtain ⟨i0, hi, hz0, hz1, hz2⟩ := info_parts infoTy
  have heq : ∀ (w : World) (n c : Nat), (binOp .eql 22 (.slice a n c) (.slice none 0 0)).run Tryz.prog w = .ok (.bool a.isNone) w := fun w n c => Lib.run_eql_slice_nil w 22 69 a n c 0 0 Tryz.underlying22
  cases a with
  | none =>
    have e0 : ts = [] := by
      rcases hT with h | ⟨b, off, e, _⟩
      · exact h
      · cases e
    subst e0
    go_enter Tryz.func57, Tryz.ntmps57
    go_wp2_with fail
    go_ret
    exact ⟨_, _, [], rfl, ⟨rfl, fun x hx => by simp at hx⟩, World.ownsRow_nil _ _ _ _, Below.refl _ _⟩
  | some ad =>
    have b0 : Below w.heap.size w (w.alloc (.cells #[] 69)) := (Below.refl _ _).alloc (Nat.le_refl _) _
    have ho : (w.alloc (.cells #[] 69)).ownsRow w.heap.size 69 2 (.slice (some ⟨w.heap.size, 0, none⟩) 0 0) 0 [] := ⟨rfl, .inr ⟨w.heap.size, 0, #[], rfl, Nat.le_refl _, World.alloc_heap_new w _, Nat.le_refl _, Nat.zero_le _, rfl, rfl⟩⟩
    obtain ⟨xs, hxs, hnews⟩ : ∃ xs : List Tw, (xs.map (·.1) = ts ∧ ∀ x ∈ xs, Flds w.heap.size w x.2.1 x.1.2) ∧ ∀ j u, (newsT xs)[j]? = some u → (w.alloc (.cells #[] 69)).cell? (ad.add j) = some u := by
      rcases hT with rfl | ⟨b, off, e, _, hc⟩
      · exact ⟨[], ⟨rfl, fun x hx => by simp at hx⟩, fun j u h => by simp [newsT] at h⟩
      · cases e
        obtain ⟨xs, h1, h2, h3⟩ := typs_tw hc
        exact ⟨xs, ⟨h1, h2⟩, fun j u hu => (b0.cell (by have := cell_lt (h3 j u hu); exact this)).trans (h3 j u hu)⟩
    have hxl : xs.length = ts.length := by rw [← hxs.1, List.length_map]
    have hnews := hide hnews
    have hln := hide (show (newsT xs).length = ts.length * 2 by rw [newsT_len, hxl])
    have h1 := hide (newsT_one xs)
    have hT := hide hT
    have hxs := hide hxs
    go_enter Tryz.func57, Tryz.ntmps57
    go_wp2_with (at_builtin; go_must (refine wpList_append_own _ rfl _ _ 22 rfl w.heap.size 69 i0 (.agg #[.string ⟨#[]⟩, .slice none 0 0]) 2 40 Tryz.underlying22 hi hz0 hz1 hz2 rfl (by decide) (.slice (some ⟨w.heap.size, 0, none⟩) 0 0) 0 [] rfl ho ad ts.length cap (newsT xs) rfl (unhide hln) (unhide hnews) (unhide h1) (by unfold maxLen; omega) (by omega) (by simp) ?_); intro v' w2 hown hgrow _)
    rw [Nat.zero_add, List.nil_append] at hown
    obtain ⟨a', c', rfl⟩ : ∃ a' c', v' = .slice a' ts.length c' := by
      rcases hown.2 with ⟨e, h0⟩ | ⟨g, cc, _, e, _⟩
      · exact ⟨none, 0, by rw [e, h0]⟩
      · exact ⟨_, _, e⟩
    replace hown := hide hown
    go_wp2_with fail
    go_ret
    exact ⟨a', c', xs, rfl, unhide hxs, unhide hown, b0.grown hgrow (by simp) (fun k e => by cases e; exact Nat.le_refl _)⟩

set_option maxRecDepth 100000 in
set_option maxHeartbeats 4000000 in
theorem chCopied_c (a : Option Addr) (cap : Nat) (ts : List Ty) (h5 : ts.length ≤ 5) (hk5 : ∀ k, (ty ts k).2.length ≤ 5) (w : World) (hT : Typs w.heap.size w a ts) :
    Calls Tryz.prog 28 #[.agg #[.slice a ts.length cap]] w fun e w' => ∃ a' c', e = .returned (.agg #[.slice a' ts.length c']) ∧ OwnT w.heap.size w' a' c' ts ∧ Below w.heap.size w w' := by
  obtain ⟨W0, hW0⟩ : ∃ W0, W0 = (w.alloc (.cells #[.slice a ts.length cap] 24)).alloc (.cells #[.slice none 0 0] 24) := ⟨_, rfl⟩
  have e0 : W0.heap.size = w.heap.size + 2 := by rw [hW0]; simp
  have b0 : Below w.heap.size w W0 := by rw [hW0]; exact ((Below.refl _ _).alloc (Nat.le_refl _) _).alloc (by simp) _
  have x1 : Box W0 w.heap.size 24 #[.slice a ts.length cap] := by rw [hW0]; exact (Box.new w 24 #[.slice a ts.length cap]).alloc _
  have x2 : Box W0 (w.heap.size + 1) 24 #[.slice none 0 0] := by
    have := Box.new (w.alloc (.cells #[.slice a ts.length cap] 24)) 24 #[.slice none 0 0]
    simp only [World.size_alloc] at this
    rw [hW0]; exact this
  have T0 := hT.on b0
  have hW0' := hide hW0
  clear hW0
  go_enter Tryz.func28, Tryz.ntmps28
  go_upto_region 1 with fail
  rw [← unhide hW0']
  have hs := x1.one.1
  go_wp2_with fail
  refine (cloneT_o a cap ts h5 W0 T0).mono ?_
  rintro e w1 ⟨a1, c1, xs, rfl, hxs, hrow, hb1⟩
  clear hs
  have hxl : xs.length = ts.length := by rw [← hxs.1, List.length_map]
  have hr1 := hide hrow
  have hbb := hide hb1
  have hx1 := hide hxs
  clear hrow hxs
  go_wp2_with fail
  go_loopw [11] (fun i wr => ∃ (k : Nat) (ys : List Tw), k ≤ ts.length ∧ i = .int .i64 k ∧ Hid (ys.map (·.1) = ts ∧ (∀ j (h : j < ys.length), j < k → Tw.own W0.heap.size wr ys[j]) ∧ ∀ j (h : j < ys.length), k ≤ j → Flds W0.heap.size W0 ys[j].2.1 ys[j].1.2) ∧ Hid (wr.ownsRow W0.heap.size 69 2 (.slice a1 ts.length c1) ts.length (newsT ys)) ∧ Below W0.heap.size W0 wr) (fun i _ => ts.length - (intOf i).toNat)
  case atStart => exact ⟨0, xs, Nat.zero_le _, rfl, hide ⟨(unhide hx1).1, fun j h h' => by omega, fun j h _ => (unhide hx1).2 _ (List.getElem_mem h)⟩, hr1, unhide hbb⟩
  case round =>
    obtain ⟨k, ys, hk, rfl, hys, hrow, hbw⟩ := hrel
    have hyl : ys.length = ts.length := by rw [← (unhide hys).1, List.length_map]
    by_cases hlt : k < ts.length
    · obtain ⟨g, eg, hgb, hgl, -, ⟨cur, hgc⟩, hcell, hfrz⟩ := owns_cells (unhide hrow) (by omega)
      have hyk : k < ys.length := by omega
      obtain ⟨y, hy⟩ : ∃ y, y = ys[k] := ⟨_, rfl⟩
      have hyt : y.1 = ty ts k := by rw [hy]; simp [ty, ← (unhide hys).1, hyk]
      have hcn := hcell (k * 2) (by omega)
      have hcf := hcell (k * 2 + 1) (by omega)
      rw [(newsT_at ys k hyk).1, ← hy] at hcn
      rw [(newsT_at ys k hyk).2, ← hy] at hcf
      have hf1 := hfrz (k * 2 + 1)
      have hy5 : y.1.2.length ≤ 5 := by rw [hyt]; exact hk5 k
      have hFk : Flds W0.heap.size W0 y.2.1 y.1.2 := by rw [hy]; exact (unhide hys).2.2 k hyk (Nat.le_refl _)
      subst eg
      obtain ⟨⟨⟨nm, fs⟩, af, cf⟩, hyy⟩ : ∃ q, q = y := ⟨_, rfl⟩
      rw [← hyy] at hy hyt hcn hcf hy5 hFk
      simp only at hcn hcf hy5 hFk
      clear hyy hcell hfrz
      obtain ⟨w2, hw2⟩ : ∃ w2, w2 = wr.alloc (.cells #[.string nm.1, .slice af fs.length cf] 69) := ⟨_, rfl⟩
      have b2 : Below wr.heap.size wr w2 := by rw [hw2]; exact (Below.refl _ _).alloc (Nat.le_refl _) _
      have v5 : Box w2 wr.heap.size 69 #[.string nm.1, .slice af fs.length cf] := by rw [hw2]; exact Box.new _ _ _
      go_upto_region 5 with fail
      rw [← hw2]
      clear hw2
      have q2 := hbw.trans (b2.mono hbw.size)
      have hv := v5.two.2
      have cF := hide (cloneF_o af cf fs hy5 w2 ((hFk.below q2).mono q2.size))
      clear hcn hcf hf1
      go_wp2_with fail
      refine (unhide cF).mono ?_
      rintro e w3 ⟨a3, c3, rfl, ho3, hb3⟩
      clear cF hv
      have q3 := q2.trans (hb3.mono q2.size)
      have b13 := b2.trans (hb3.mono b2.size)
      have hr3 := owns_below (unhide hrow) b13
      have hgc3 := (b13.block g hgl).trans hgc
      have hcf3 : w3.cell? ⟨g, k * 2 + 1, none⟩ = some (.slice af fs.length cf) := by
        obtain ⟨g', e', -, -, -, -, hcell, -⟩ := owns_cells hr3 (by omega)
        cases e'
        rw [hcell (k * 2 + 1) (by omega), (newsT_at ys k hyk).2, ← hy]
      have hff3 : w3.frozen? ⟨g, k * 2 + 1, none⟩ = false := (show Box w3 g 69 cur from hgc3).frz _
      have hr4 := owns_put hr3 (k * 2 + 1) (.slice a3 fs.length c3)
      have hset : ys.set k (ys[k].1, a3, c3) = ys.set k ((nm, fs), a3, c3) := by rw [← hy]
      have hnf := newsT_fields ys k hyk a3 c3
      rw [hset, ← hy] at hnf
      simp only at hnf
      rw [← hnf] at hr4
      have hown : ∀ j (h : j < (ys.set k ((nm, fs), a3, c3)).length), j < k + 1 → Tw.own W0.heap.size (w3.setCell ⟨g, k * 2 + 1, none⟩ (.slice a3 fs.length c3)) (ys.set k ((nm, fs), a3, c3))[j] := fun j h hj => by
        rw [List.length_set] at h
        rw [List.getElem_set]
        split
        · exact set_other (owns_base (Nat.le_trans hbw.size b2.size) ho3) hgc3 (by decide) _
        · exact set_other (owns_below ((unhide hys).2.1 j h (by omega)) b13) hgc3 (by decide) _
      have hrest : ∀ j (h : j < (ys.set k ((nm, fs), a3, c3)).length), k + 1 ≤ j → Flds W0.heap.size W0 (ys.set k ((nm, fs), a3, c3))[j].2.1 (ys.set k ((nm, fs), a3, c3))[j].1.2 := fun j h hj => by
        rw [List.length_set] at h
        rw [List.getElem_set_ne (by omega)]
        exact (unhide hys).2.2 j h (by omega)
      have hmap : (ys.set k ((nm, fs), a3, c3)).map (·.1) = ts := by
        rw [List.map_set, (unhide hys).1]
        simp only
        rw [hyt, show ty ts k = ts[k] by simp [ty, hlt], List.set_getElem_self]
      have hlast := hide (And.intro hmap (And.intro hown hrest))
      replace hr4 := hide hr4
      have q4 := q3.setCell (p := ⟨g, k * 2 + 1, none⟩) hgb (.slice a3 fs.length c3)
      clear hmap hown hrest hset hnf hr3 ho3
      go_wp2_with fail
      refine ⟨⟨k + 1, ?_⟩, by simp [intOf]; omega⟩
      first
        | exact ⟨ys.set k ((nm, fs), a3, c3), by omega, by go_num, hlast, hr4, q4⟩
        | exact ⟨by omega, by go_num, ys.set k ((nm, fs), a3, c3), hlast, hr4, q4⟩
    · obtain rfl : k = ts.length := by omega
      have y2 := x2.on hbw x2.lt
      obtain ⟨hz0, hzf⟩ := y2.one
      go_wp2_with fail
      have u2 := (y2.set 0 (.slice a1 ts.length c1)).one.1
      refine bodyPost_ret (v := .agg #[.slice a1 ts.length c1]) (by simp [results, Tryz.results28, go_sem, u2]) rfl ⟨a1, c1, rfl, ?_, (b0.trans (hbw.mono b0.size)).setCell (p := ⟨w.heap.size + 1, 0, none⟩) (by simp only; omega) _⟩
      refine OwnT.base (Nat.le_of_lt (show w.heap.size < W0.heap.size by omega)) (OwnT.set ⟨ys, (unhide hys).1, unhide hrow, fun x hx => ?_⟩ ⟨w.heap.size + 1, 0, none⟩ _ (by simp only; omega))
      obtain ⟨j, hj, rfl⟩ := List.getElem_of_mem hx
      exact (unhide hys).2.1 j hj (by omega)

end Go.Proofs.YtcjpaldijngnpaaGreatDoor
