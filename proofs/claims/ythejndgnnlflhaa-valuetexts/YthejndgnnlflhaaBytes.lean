/-
  A row of bytes that a call has made: what its cells hold behind a store, behind a call that turns nothing of it, and the text that it is turned into.
-/
import Derived.Test.YthejndgnnlflhaaKnown
namespace Go.Proofs.Ythejndgnnlflhaa
open Go.RowKit

/-- Block B of W holds the bytes xs, k of them, and may be written. -/
def ByteRow (W : World) (B k : Nat) (xs : List Int) : Prop :=
  xs.length = k ∧ (∀ i, i < k → W.cell? ⟨B, i, none⟩ = some (.int .u8 (xs.getD i 0))) ∧ (∀ i, i < k → W.frozen? ⟨B, i, none⟩ = false)

theorem ByteRow.below {A C : World} {n₀ B k : Nat} {xs : List Int} (h : ByteRow A B k xs) (hb : Below n₀ A C) (hB : B < n₀) : ByteRow C B k xs :=
  ⟨h.1, fun i hi => (hb.cell (p := ⟨B, i, none⟩) hB).trans (h.2.1 i hi), fun i hi => (hb.frozen (p := ⟨B, i, none⟩) hB).trans (h.2.2 i hi)⟩

theorem ByteRow.set {W : World} {B k : Nat} {xs : List Int} (h : ByteRow W B k xs) (j : Nat) (hj : j < k) (v : Int) : ByteRow (W.setCell ⟨B, j, none⟩ (.int .u8 v)) B k (xs.set j v) := by
  refine ⟨by simpa using h.1, fun i hi => ?_, fun i hi => by rw [World.frozen?_setCell]; exact h.2.2 i hi⟩
  by_cases e : i = j
  · subst e
    rw [World.cell?_setCell_same' _ _ _ (by rw [h.2.1 i hi]; rfl)]
    simp [List.getD, h.1, hi]
  · rw [World.cell?_setCell_other W ⟨B, j, none⟩ ⟨B, i, none⟩ _ (fun h' => e (Addr.mk.inj h').2.1.symm), h.2.1 i hi]
    simp [List.getD, Ne.symm e]

theorem ByteRow.made {W : World} {base B k : Nat} (h : W.ownsRow base 5 1 (.slice (some ⟨B, 0, none⟩) k k) k (madeCells (Value.cells (.int .u8 0)) (k * 1)).toList) : ByteRow W B k (List.replicate k 0) := by
  rcases h.2 with ⟨h', _⟩ | ⟨g, cap, cur, h', _, hg, _, _, hcs, htake⟩
  · simp at h'
  · simp only [Value.slice.injEq, Option.some.injEq, Addr.mk.injEq, and_true, true_and] at h'
    obtain ⟨rfl, rfl⟩ := h'
    refine ⟨by simp, fun i hi => ?_, fun i hi => by simp [World.frozen?, hg]⟩
    have e1 : cur[i]? = some (.int .u8 0) := by
      have e2 : (cur.toList.take (k * 1))[i]? = cur[i]? := by rw [List.getElem?_take, if_pos (by omega), Array.getElem?_toList]
      rw [← e2, htake, Array.getElem?_toList]
      simp [madeCells, Value.cells, Nat.mod_one, hi]
    simp [World.cell?, hg, e1, List.getD, hi]

theorem conv_bytes {W : World} {B k : Nat} {xs : List Int} (h : ByteRow W B k xs) : (convert 35 9 (.slice (some ⟨B, 0, none⟩) k k)).run Try.prog W = .ok (.string (strOfNums xs)) W :=
  run_convert_bytes_arg W 35 5 Try.underlying35 Try.underlying5 B 0 k k xs h.1 (fun i hi => by rw [Nat.zero_add]; exact h.2.1 i hi) 9 Try.underlying9

theorem byteOf (x : Int) (h : 0 ≤ x ∧ x ≤ 255) : ((UInt8.ofNat x.toNat).toNat : Int) = x := by
  rw [UInt8.toNat_ofNat']; omega

/-- A row of k like bytes, one of them changed: all are from lo to hi just if that one is. -/
theorem allB_set (lo hi c y : Int) (k p : Nat) (xs : List Int) (hl : xs.length = k) (hp : p < k) (hx : ∀ i, i < k → xs.getD i 0 = c) (hc : 0 ≤ c ∧ c ≤ 255) (hy : 0 ≤ y ∧ y ≤ 255) (hin : inB lo hi c = true) :
    allB lo hi (strOfNums (xs.set p y)).data.toList = inB lo hi y := by
  rw [strOfNums_data]
  unfold allB
  have hmem : ∀ x ∈ xs.set p y, x = c ∨ x = y := by
    intro x h
    obtain ⟨i, hi, rfl⟩ := List.mem_iff_getElem.1 h
    rw [List.getElem_set]
    split
    · exact .inr rfl
    · have hi' : i < k := by simpa [hl] using hi
      have := hx i hi'
      rw [List.getD_eq_getElem?_getD, List.getElem?_eq_getElem (by omega)] at this
      exact .inl this
  have hyin : y ∈ xs.set p y := by
    refine List.mem_iff_getElem.2 ⟨p, by simpa [hl] using hp, by simp⟩
  cases h : inB lo hi y
  · rw [List.all_eq_false]
    exact ⟨UInt8.ofNat y.toNat, List.mem_map.2 ⟨y, hyin, rfl⟩, by rw [byteOf y hy, h]; simp⟩
  · rw [List.all_eq_true]
    intro b hb
    obtain ⟨x, hx', rfl⟩ := List.mem_map.1 hb
    rcases hmem x hx' with rfl | rfl
    · rw [byteOf x hc]; exact hin
    · rw [byteOf x hy]; exact h

end Go.Proofs.Ythejndgnnlflhaa
