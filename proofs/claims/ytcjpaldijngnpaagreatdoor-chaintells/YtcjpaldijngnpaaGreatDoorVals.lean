/-
  Rows of values in memory; what value's Same, slices.EqualFunc over it, event's Same, slices.Clone of values and event's Copy answer: for every event of at most 20 values, in whatever world; nothing that lay is turned.
-/
import Derived.Test.YtcjpaldijngnpaaGreatDoorFind
namespace Go.Proofs.YtcjpaldijngnpaaGreatDoor
open Go.RowKit Go.Shelf

/-- A value: its kind, its number, its text. -/
abbrev Vl := Int × Int × Txt
abbrev vl (vs : List Vl) (j : Nat) : Vl := vs[j]?.getD default
/-- The slice at a has these values, below n₀. -/
def Vals (n₀ : Nat) (W : World) (a : Option Addr) (vs : List Vl) : Prop :=
  vs = [] ∨ ∃ b off, a = some ⟨b, off, none⟩ ∧ b < n₀ ∧ ∀ j, j < vs.length → W.cell? ⟨b, off + j * 3, none⟩ = some (.int .i64 (vl vs j).1) ∧ W.cell? ⟨b, off + j * 3 + 1, none⟩ = some (.int .i64 (vl vs j).2.1) ∧ W.cell? ⟨b, off + j * 3 + 2, none⟩ = some (.string (vl vs j).2.2.1)
theorem Vals.below {n₀ : Nat} {A B : World} (h : Below n₀ A B) {a : Option Addr} {vs : List Vl} : Vals n₀ A a vs → Vals n₀ B a vs
  | .inl e => .inl e
  | .inr ⟨b, off, e, hb, hc⟩ => .inr ⟨b, off, e, hb, fun j hj => ⟨(h.cell (p := ⟨b, off + j * 3, none⟩) hb).trans (hc j hj).1, (h.cell (p := ⟨b, off + j * 3 + 1, none⟩) hb).trans (hc j hj).2.1, (h.cell (p := ⟨b, off + j * 3 + 2, none⟩) hb).trans (hc j hj).2.2⟩⟩
theorem Vals.mono {n₀ n₁ : Nat} (hn : n₀ ≤ n₁) {A : World} {a : Option Addr} {vs : List Vl} : Vals n₀ A a vs → Vals n₁ A a vs
  | .inl e => .inl e
  | .inr ⟨b, off, e, hb, hc⟩ => .inr ⟨b, off, e, Nat.lt_of_lt_of_le hb hn, hc⟩
theorem Vals.on {A B : World} {a : Option Addr} {vs : List Vl} (h : Vals A.heap.size A a vs) (hb : Below A.heap.size A B) : Vals B.heap.size B a vs := (h.below hb).mono hb.size
theorem Vals.set {n : Nat} {W : World} {a : Option Addr} {vs : List Vl} (h : Vals n W a vs) (p : Addr) (v : Value) (hne : ∀ ad, a = some ad → p.block ≠ ad.block) : Vals n (W.setCell p v) a vs := by
  rcases h with h | ⟨b, off, rfl, hb, hc⟩
  · exact .inl h
  · have hp := hne _ rfl
    refine .inr ⟨b, off, rfl, hb, fun j hj => ⟨(World.cell?_setCell_other _ _ _ _ (fun e => hp (by rw [e]))).trans (hc j hj).1, (World.cell?_setCell_other _ _ _ _ (fun e => hp (by rw [e]))).trans (hc j hj).2.1, (World.cell?_setCell_other _ _ _ _ (fun e => hp (by rw [e]))).trans (hc j hj).2.2⟩⟩

/-- Two values are the same: all parts. -/
def sameV (x y : Vl) : Bool := decide (x.1 = y.1 ∧ x.2.1 = y.2.1 ∧ x.2.2.1.toList = y.2.2.1.toList)



/-- Two rows of values are the same as far as the first goes. -/
def samesV (vs us : List Vl) : Bool := (vs.zip us).all fun p => sameV p.1 p.2
theorem samesV_snoc (vs us : List Vl) (x y : Vl) (h : vs.length = us.length) : samesV (vs ++ [x]) (us ++ [y]) = (samesV vs us && sameV x y) := by
  simp [samesV, List.zip_append h]
theorem samesV_no (vs us : List Vl) (k : Nat) (h : samesV (vs.take k) (us.take k) = false) : samesV vs us = false := by
  unfold samesV at *
  rw [List.zip_eq_zipWith, ← List.take_zipWith, ← List.zip_eq_zipWith, List.all_eq_false] at h
  rw [List.all_eq_false]
  obtain ⟨x, hx, hn⟩ := h
  exact ⟨x, List.mem_of_mem_take hx, hn⟩
def sameVs (vs us : List Vl) : Bool := decide (vs.length = us.length) && samesV vs us



/-- An event: its type's name, its time, its values. -/
structure Ev where
  ty : Txt
  ts : Int
  vs : List Vl
/-- Two events are the same: all parts. -/
def sameE (x y : Ev) : Bool := (x.ty.1.toList == y.ty.1.toList) && decide (x.ts = y.ts) && sameVs x.vs y.vs



theorem infoVl : (Tryz.prog.info? 40).map (fun i => (i.zero, i.size, i.bytes)) = some (some (.agg #[.int .i64 0, .int .i64 0, .string ⟨#[]⟩]), 3, 32) := by kernel_rfl

/-- The cells of a row of values. -/
def newsV (vs : List Vl) : List Value := vs.flatMap fun v => [.int .i64 v.1, .int .i64 v.2.1, .string v.2.2.1]
theorem newsV_len (vs : List Vl) : (newsV vs).length = vs.length * 3 := by
  induction vs with
  | nil => rfl
  | cons f vs ih => simp only [newsV, List.flatMap_cons, List.length_append, List.length_cons, List.length_nil] at ih ⊢; omega
theorem newsV_at (vs : List Vl) : ∀ j, j < vs.length → (newsV vs)[j * 3]? = some (.int .i64 (vl vs j).1) ∧ (newsV vs)[j * 3 + 1]? = some (.int .i64 (vl vs j).2.1) ∧ (newsV vs)[j * 3 + 2]? = some (.string (vl vs j).2.2.1) := by
  induction vs with
  | nil => intro j hj; simp at hj
  | cons f vs ih =>
    intro j hj
    cases j with
    | zero => simp [newsV, vl]
    | succ j =>
      have := ih j (by simpa using hj)
      have e : newsV (f :: vs) = .int .i64 f.1 :: .int .i64 f.2.1 :: .string f.2.2.1 :: newsV vs := by simp [newsV]
      rw [e, show (j + 1) * 3 = j * 3 + 1 + 1 + 1 by omega]
      simpa [vl] using this
theorem newsV_one (vs : List Vl) : ∀ u ∈ newsV vs, u.oneCell' = true := by
  intro u hu
  simp only [newsV, List.mem_flatMap] at hu
  obtain ⟨f, _, hf⟩ := hu
  simp at hf
  rcases hf with rfl | rfl | rfl <;> simp [Value.oneCell']
theorem newsV_append (vs us : List Vl) : newsV (vs ++ us) = newsV vs ++ newsV us := by simp [newsV]
theorem vals_of_owns {W : World} {base : Nat} {v : Value} {vs : List Vl} (h : W.ownsRow base 40 3 v vs.length (newsV vs)) : ∃ a c, v = .slice a vs.length c ∧ Vals W.heap.size W a vs ∧ ∀ ad, a = some ad → base ≤ ad.block := by
  rcases h.2 with ⟨rfl, h0⟩ | ⟨g, cap, cur, rfl, hbase, hg, _, _, _, htake⟩
  · rw [h0]; exact ⟨_, _, rfl, .inl (List.length_eq_zero_iff.1 h0), fun _ e => by cases e⟩
  · refine ⟨_, _, rfl, .inr ⟨g, 0, rfl, (Array.getElem?_eq_some_iff.1 hg).1, fun j hj => ?_⟩, fun _ e => by cases e; exact hbase⟩
    have e2 : ∀ i, i < vs.length * 3 → (cur.toList.take (vs.length * 3))[i]? = cur[i]? := fun i hi => by rw [List.getElem?_take, if_pos hi, Array.getElem?_toList]
    rw [htake] at e2
    simp only [Nat.zero_add, World.cell?, hg]
    have h1 := e2 (j * 3) (by omega)
    have h2 := e2 (j * 3 + 1) (by omega)
    have h3 := e2 (j * 3 + 2) (by omega)
    rw [(newsV_at vs j hj).1] at h1
    rw [(newsV_at vs j hj).2.1] at h2
    rw [(newsV_at vs j hj).2.2] at h3
    simp [← h1, ← h2, ← h3]

theorem newsV_cells {W : World} {b off : Nat} {vs : List Vl} (hc : ∀ j, j < vs.length → W.cell? ⟨b, off + j * 3, none⟩ = some (.int .i64 (vl vs j).1) ∧ W.cell? ⟨b, off + j * 3 + 1, none⟩ = some (.int .i64 (vl vs j).2.1) ∧ W.cell? ⟨b, off + j * 3 + 2, none⟩ = some (.string (vl vs j).2.2.1)) :
    ∀ j u, (newsV vs)[j]? = some u → W.cell? ((⟨b, off, none⟩ : Addr).add j) = some u := by
  intro j u hu
  have hj : j < vs.length * 3 := by
    have := (List.getElem?_eq_some_iff.1 hu).1
    rwa [newsV_len] at this
  rw [WideShapes.add_plain]
  have hk : j / 3 < vs.length := by omega
  have h3 : j % 3 = 0 ∨ j % 3 = 1 ∨ j % 3 = 2 := by omega
  rcases h3 with h | h | h
  · have e : j = j / 3 * 3 := by omega
    rw [e] at hu ⊢
    rw [(newsV_at vs _ hk).1] at hu
    rw [← hu]
    exact (hc _ hk).1
  · have e : j = j / 3 * 3 + 1 := by omega
    rw [e] at hu ⊢
    rw [(newsV_at vs _ hk).2.1] at hu
    rw [← hu, ← Nat.add_assoc]
    exact (hc _ hk).2.1
  · have e : j = j / 3 * 3 + 2 := by omega
    rw [e] at hu ⊢
    rw [(newsV_at vs _ hk).2.2] at hu
    rw [← hu, ← Nat.add_assoc]
    exact (hc _ hk).2.2

set_option maxRecDepth 100000 in
set_option maxHeartbeats 1000000 in
/-- What Clone makes: a row of its own. -/
theorem cloneV_c (a : Option Addr) (cap : Nat) (vs : List Vl) (h20 : vs.length ≤ 20) (w : World) (hV : Vals w.heap.size w a vs) :
    Calls Tryz.prog 70 #[.slice a vs.length cap] w fun e w' => ∃ a' c', e = .returned (.slice a' vs.length c') ∧ w'.ownsRow w.heap.size 40 3 (.slice a' vs.length c') vs.length (newsV vs) ∧ Below w.heap.size w w' := by
  obtain ⟨i0, hi, hz0, hz1, hz2⟩ := info_parts infoVl
  have heq : ∀ (w : World) (n c : Nat), (binOp .eql 26 (.slice a n c) (.slice none 0 0)).run Tryz.prog w = .ok (.bool a.isNone) w := fun w n c => Lib.run_eql_slice_nil w 26 40 a n c 0 0 Tryz.underlying26
  cases a with
  | none =>
    have e0 : vs = [] := by
      rcases hV with h | ⟨b, off, e, _⟩
      · exact h
      · cases e
    subst e0
    go_enter Tryz.func70, Tryz.ntmps70
    go_wp2_with fail
    go_ret
    exact ⟨_, _, rfl, ⟨rfl, .inl ⟨rfl, rfl⟩⟩, Below.refl _ _⟩
  | some ad =>
    have b0 : Below w.heap.size w (w.alloc (.cells #[] 40)) := (Below.refl _ _).alloc (Nat.le_refl _) _
    have ho : (w.alloc (.cells #[] 40)).ownsRow w.heap.size 40 3 (.slice (some ⟨w.heap.size, 0, none⟩) 0 0) 0 [] := ⟨rfl, .inr ⟨w.heap.size, 0, #[], rfl, Nat.le_refl _, World.alloc_heap_new w _, Nat.le_refl _, Nat.zero_le _, rfl, rfl⟩⟩
    have hnews : ∀ j u, (newsV vs)[j]? = some u → (w.alloc (.cells #[] 40)).cell? (ad.add j) = some u := by
      rcases hV.below b0 with rfl | ⟨b, off, e, _, hc⟩
      · intro j u h; simp [newsV] at h
      · cases e; exact newsV_cells hc
    have hnews := hide hnews
    have hln := hide (newsV_len vs)
    have h1 := hide (newsV_one vs)
    have hV := hide hV
    go_enter Tryz.func70, Tryz.ntmps70
    go_wp2_with (at_builtin; go_must (refine wpList_append_own _ rfl _ _ 26 rfl w.heap.size 40 i0 (.agg #[.int .i64 0, .int .i64 0, .string ⟨#[]⟩]) 3 32 Tryz.underlying26 hi hz0 hz1 hz2 rfl (by decide) (.slice (some ⟨w.heap.size, 0, none⟩) 0 0) 0 [] rfl ho ad vs.length cap (newsV vs) rfl (unhide hln) (unhide hnews) (unhide h1) (by unfold maxLen; omega) (by omega) (by simp) ?_); intro v' w2 hown hgrow _)
    rw [Nat.zero_add] at hown
    obtain ⟨a', c', rfl, _, _⟩ := vals_of_owns hown
    go_wp2_with fail
    go_ret
    exact ⟨a', c', rfl, by simpa using hown, b0.grown hgrow (by simp) (fun k e => by cases e; exact Nat.le_refl _)⟩

end Go.Proofs.YtcjpaldijngnpaaGreatDoor
