/-
  A row that a call makes beside boxes that lie below it: one element more, and what stays.
-/
import Derived.Test.YtgfaaeloppdkkaaDoorWIter
import Derived.Maps.OwnIn
namespace Go.Proofs.YtgfaaeloppdkkaaDoor
open Go.RowKit Go.Shelf

theorem owns_keep {W W' : World} {base : Nat} {e : TypeId} {size : Nat} {v : Value} {n : Nat} {xs : List Value} (h : W.ownsRow base e size v n xs) (hk : ∀ g, v.ownBlock = some g → g < W.heap.size → W'.heap[g]? = W.heap[g]?) : W'.ownsRow base e size v n xs := by
  refine ⟨h.1, ?_⟩
  rcases h.2 with h0 | ⟨g, cap, cur, rfl, hb, hg, hr⟩
  · exact .inl h0
  · exact .inr ⟨g, cap, cur, rfl, hb, (hk g rfl (Array.getElem?_eq_some_iff.1 hg).1).trans hg, hr⟩

theorem owns_lt {W : World} {base : Nat} {e : TypeId} {size : Nat} {v : Value} {n : Nat} {xs : List Value} (h : W.ownsRow base e size v n xs) {g : Nat} (hg : v.ownBlock = some g) : base ≤ g ∧ ∃ cur, W.heap[g]? = some (.cells cur e (0, 0)) := by
  rcases h.2 with ⟨rfl, _⟩ | ⟨g', cap, cur, rfl, hb, hg', _⟩
  · cases hg
  · cases hg; exact ⟨hb, cur, hg'⟩

theorem owns_base {W : World} {base base' : Nat} (hl : base' ≤ base) {e : TypeId} {size : Nat} {v : Value} {n : Nat} {xs : List Value} (h : W.ownsRow base e size v n xs) : W.ownsRow base' e size v n xs := by
  refine ⟨h.1, ?_⟩
  rcases h.2 with h0 | ⟨g, cap, cur, rfl, hb, hr⟩
  · exact .inl h0
  · exact .inr ⟨g, cap, cur, rfl, Nat.le_trans hl hb, hr⟩

theorem setCell_block (W : World) (p : Addr) (v : Value) {g : Nat} (h : p.block ≠ g) : (W.setCell p v).heap[g]? = W.heap[g]? := by
  simp [World.setCell, Array.getElem?_modify, h]

attribute [local go_sem] Oper.semAt_some
theorem keeps_below {W W' : World} (hb : Below W.heap.size W W') : KeepsOthers W W' := ⟨hb.size, fun k _ hk _ => (hb.block k (Array.getElem?_eq_some_iff.1 hk).1).trans hk⟩

theorem own_row {β : Type} (base : Nat) (e : TypeId) (size : Nat) (v : Value) (k : β → Nat) (f : β → List Value) : Own (fun s W => W.ownsRow base e size v (k s) (f s)) := by
  rintro s X Y row hr hg hrow
  refine hr.kept hg ?_
  rcases hr.2 with ⟨rfl, _⟩ | ⟨g, cap, cur, rfl, _, hgb, _⟩
  · exact .inl rfl
  · refine .inr fun e' => ?_
    obtain ⟨o, ho, hc⟩ := hrow g e'.symm
    rw [hgb] at ho; cases ho; cases hc

/-- One element more, in a row above the box that bears it. -/
theorem appended {W w1 : World} {base B : Nat} {t e : TypeId} {size : Nat} {cs : Array Value} {v v' : Value} {k m : Nat} {xs ys : List Value} {tmp : Obj} (i : Nat)
    (hb : Box W B t cs) (hlt : B < base) (hrow : W.ownsRow base e size v k xs) (hbase : base ≤ W.heap.size) (hown' : w1.ownsRow base e size v' m ys) (hgrow : (W.alloc tmp).grownBy w1 v.ownBlock) :
    Box w1 B t cs ∧ Box (w1.setCell ⟨B, i, none⟩ v') B t (cs.setIfInBounds i v') ∧ (w1.setCell ⟨B, i, none⟩ v').ownsRow base e size v' m ys ∧ KeepsOthers W (w1.setCell ⟨B, i, none⟩ v') ∧ (∀ k, k < base → k ≠ B → k < W.heap.size → (w1.setCell ⟨B, i, none⟩ v').heap[k]? = W.heap[k]?) ∧ ∀ n, n ≤ B → Below n W (w1.setCell ⟨B, i, none⟩ v') := by
  have hne : ∀ g, v.ownBlock = some g → base ≤ g := fun g hg => (owns_lt hrow hg).1
  have hb1 : Box w1 B t cs := (hgrow.block B (by have := hb.lt; simp; omega) (fun e' => by have := hne B e'.symm; omega)).trans (hb.alloc tmp)
  have hkp : ∀ k, k < base → k ≠ B → k < W.heap.size → (w1.setCell ⟨B, i, none⟩ v').heap[k]? = W.heap[k]? := by
    intro k hk hkB hl
    rw [setCell_block _ _ _ (by simp only; omega)]
    exact (hgrow.block k (by simp; omega) (fun e' => by have := hne k e'.symm; omega)).trans (Below.heap_alloc _ _ _ hl)
  refine ⟨hb1, hb1.set i v', owns_keep hown' (fun g hg _ => setCell_block _ _ _ (by have := (owns_lt hown' hg).1; simp only; omega)), ?_, hkp, ?_⟩
  · refine ((KeepsOthers.alloc W tmp).trans (KeepsOthers.of_grownBy hgrow fun j o ej hj => ?_)).trans (KeepsOthers.setCell _ _ _)
    rcases (hrow.alloc tmp).2 with ⟨rfl, _⟩ | ⟨g, cap, cur, rfl, _, hgb, _⟩
    · simp [Value.ownBlock] at ej
    · obtain rfl : g = j := by simpa [Value.ownBlock] using ej
      rw [hgb] at hj; cases hj; rfl
  · intro n hn
    refine (((Below.refl n W).alloc (by omega) tmp).grown hgrow (by simp; omega) fun j ej => ?_).setCell (p := ⟨B, i, none⟩) hn v'
    have := hne j ej
    omega
theorem owns_form {W : World} {base : Nat} {e : TypeId} {size : Nat} {v : Value} {n : Nat} {xs : List Value} (h : W.ownsRow base e size v n xs) : ∃ a cap, v = .slice a n cap := by
  rcases h.2 with ⟨rfl, h0⟩ | ⟨g, cap, cur, rfl, _⟩
  · obtain ⟨rfl, _⟩ : n = 0 ∧ True := ⟨by first | exact h0 | exact h0.1 | (simp at h0; exact h0.1), trivial⟩; exact ⟨none, 0, rfl⟩
  · exact ⟨_, _, rfl⟩
theorem cell_four_new (w : World) (x y z u : Value) (t : TypeId) : ∀ j v, [x, y, z, u][j]? = some v → (w.alloc (.cells #[x, y, z, u] t)).cell? ((⟨w.heap.size, 0, none⟩ : Addr).add j) = some v := by
  intro j v hj
  match j, hj with
  | 0, hj => simp at hj; subst hj; simp [Addr.add]
  | 1, hj => simp at hj; subst hj; simp [Addr.add]
  | 2, hj => simp at hj; subst hj; simp [Addr.add]
  | 3, hj => simp at hj; subst hj; simp [Addr.add]
  | j + 4, hj => simp at hj

end Go.Proofs.YtgfaaeloppdkkaaDoor
