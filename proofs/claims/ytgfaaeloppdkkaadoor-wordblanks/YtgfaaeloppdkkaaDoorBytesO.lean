/-
  A row of bytes that came in, as it is read.
-/
import Derived.Test.YtgfaaeloppdkkaaDoorBlanksP
namespace Go.Proofs.YtgfaaeloppdkkaaDoor
open Go.ChangeShapes Go.WideShapes Go.ChangeAt Go.RowKit

set_option maxRecDepth 100000 in
theorem open_bytes7 {H : Type} {enc : TypeId × Value → H} {W : World} {r : Reach} {b0 bs : Nat} {v : Value} {d : DataW H} {p : List MemPlace} {sp : Nat → Bool} {hd : Bool}
    (hv : Value.okWide Tryd.prog W r b0 34 v) (h : DataW.Trod enc Tryd.prog W bs sp hd 34 v d p) : ∃ xs, ByteS W.heap.size W v xs := by
  obtain ⟨a, len, cap, rfl⟩ := okWide_slice Tryd.underlying34 hv
  obtain ⟨fuel, hf⟩ := h
  rcases open_ints Tryd.underlying34 Tryd.underlying5 cells5 hf with ⟨hcs, _⟩ | ⟨x, l, c, zs, hcs, _, hl, _, hz, _, hcell, hwf⟩
  · simp [Value.cells] at hcs
    obtain ⟨rfl, rfl, rfl⟩ := hcs
    exact ⟨[], .inl ⟨_, _, rfl, rfl⟩⟩
  · simp [Value.cells] at hcs
    obtain ⟨rfl, rfl, rfl⟩ := hcs
    refine ⟨zs.take len, ?_⟩
    have hge : len ≤ zs.length := by rw [hz]; split <;> omega
    cases len with
    | zero => exact .inl ⟨_, _, rfl, by simp⟩
    | succ n =>
      obtain ⟨b, off, spot⟩ := x
      have hspot : spot = none := by simpa [Addr.add] using World.cell?_spot (hcell 0 (by omega))
      subst hspot
      have hc' : ∀ j (h : j < n + 1), W.cell? ⟨b, off + j, none⟩ = some (.int .u8 (zs[j]'(by omega))) := fun j hj => by
        have := hcell j (by omega)
        rw [Go.WideShapes.add_plain, List.getD_eq_getElem?_getD, List.getElem?_eq_getElem (by omega)] at this
        exact this
      refine .inr ⟨b, off, cap, by rw [List.length_take, Nat.min_eq_left hge], block_lt_of_cell (hc' 0 (by omega)), fun j hj => ?_⟩
      have hj' : j < n + 1 := by simp at hj; omega
      have hb := bounds_u8 (hwf zs[j] (List.getElem_mem _))
      rw [List.getElem_take]
      exact ⟨hc' j hj', hb.1, hb.2⟩

end Go.Proofs.YtgfaaeloppdkkaaDoor
