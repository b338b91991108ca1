/-
  What WordMany answers: as many words as may be and more, as long as may be and longer: the words of '+ + ..' and of one letter said again and again.
-/
import Derived.Test.YtgfaaeloppdkkaaDoorSignsP
namespace Go.Proofs.YtgfaaeloppdkkaaDoor
open Go.RowKit Go.Shelf

def plusL (k : Nat) : List UInt8 := (List.replicate k [43, 32]).flatten
theorem plusL_len (k : Nat) : (plusL k).length = 2 * k := by induction k with
  | zero => rfl
  | succ k ih => rw [plusL, List.replicate_succ, List.flatten_cons, List.length_append]; rw [plusL] at ih; rw [ih]; simp; omega
theorem plusL_snoc (k : Nat) : plusL (k + 1) = plusL k ++ [43, 32] := by
  rw [plusL, plusL, List.replicate_succ', List.flatten_append]; simp

theorem firstW_plus (r : List UInt8) : firstW (43 :: r) = .word 5 [43] 0 1 := by
  have h1 : inB 97 122 (43 : UInt8).toNat = false := rfl
  have h2 : inB 65 90 (43 : UInt8).toNat = false := rfl
  have h3 : isNumL (43 :: r) = false := rfl
  have h4 : ¬ (43 : UInt8).toNat = 34 := by decide
  show (if inB 97 122 (43 : UInt8).toNat = true then nameW (43 :: r) else if inB 65 90 (43 : UInt8).toNat = true then greatW (43 :: r) else if isNumL (43 :: r) = true then numW (43 :: r) else if (43 : UInt8).toNat = 34 then textW (43 :: r) else signW (43 :: r)) = _
  rw [h1, h2, h3, if_neg (by decide), if_neg (by decide), if_neg (by decide), if_neg h4]
  rfl

def plusW (k : Nat) (a : Nat) : List Wd := (List.range k).map fun j => .word 5 [43] 0 ((a + 2 * j : Nat) : Nat)
theorem restL_plus : ∀ (k a : Nat), restL a (plusL k) = plusW k a
  | 0, a => rfl
  | k + 1, a => by
    have e : plusL (k + 1) = 43 :: 32 :: plusL k := by rw [plusL, List.replicate_succ, List.flatten_cons]; rfl
    rw [e, restL_word a (by decide) (firstW_plus _)]
    simp only [List.drop_succ_cons, List.drop_zero]
    rw [restL_blank (a + 1) _ (by decide), restL_plus k (a + 1 + 1)]
    simp only [plusW, List.range_succ_eq_map, List.map_cons, List.map_map]
    congr 1
    apply List.map_congr_left
    intro j _
    simp only [Function.comp]
    congr 1
    omega
theorem plusW_words (k a : Nat) : ∀ x ∈ plusW k a, isWord x = true := by
  intro x hx
  obtain ⟨j, _, rfl⟩ := List.mem_map.1 hx
  rfl
theorem errL_over (l : List Wd) (h : ∀ x ∈ l, isWord x = true) (hl : 500 < l.length) : errL 0 l = 12 := by
  have e : l = l.take 500 ++ l.drop 500 := (List.take_append_drop _ _).symm
  rw [e, errL_append _ _ _ (fun x hx => h x (List.mem_of_mem_take hx)) (by simp; omega)]
  have hd : 0 < (l.drop 500).length := by simp; omega
  cases hc : l.drop 500 with
  | nil => rw [hc] at hd; simp at hd
  | cons x r =>
    have hx := h x (List.mem_of_mem_drop (hc ▸ List.mem_cons_self))
    cases x with
    | bad e => cases hx
    | word => rw [List.length_take, Nat.min_eq_left (by omega)]; rfl

theorem lead_rep (lo hi : Int) (c : UInt8) (j : Nat) (h : inB lo hi c.toNat = true) : leadL lo hi (List.replicate j c) = List.replicate j c := by
  refine leadL_whole ?_
  simp [allB, h]
theorem firstW_small (j : Nat) (hj : 1 ≤ j) : firstW (List.replicate j 97) = if j ≤ 8 then .word 1 (List.replicate j 97) 0 j else .bad 12 := by
  rw [firstW_name _ 97 (by cases j with | zero => omega | succ j => rfl) rfl, nameW, lead_rep 97 122 97 j rfl, List.length_replicate]
theorem firstW_big (j : Nat) (hj : 1 ≤ j) : firstW (List.replicate j 65) = if j ≤ 8 then .word 4 (List.replicate j 65) 0 j else .bad 12 := by
  rw [firstW_great _ 65 (by cases j with | zero => omega | succ j => rfl) rfl rfl, greatW, lead_rep 65 90 65 j rfl, List.length_replicate]
theorem cutL_rep (c : UInt8) (kk : Int) (j : Nat) (hj : 1 ≤ j) (hc : c.toNat ≠ 32) (hf : firstW (List.replicate j c) = if j ≤ 8 then .word kk (List.replicate j c) 0 j else .bad 12) :
    cutL (List.replicate j c) = if j ≤ 8 then [.word kk (List.replicate j c) 0 0] else [.bad 12] := by
  show restL 0 (List.replicate j c) = _
  cases j with
  | zero => omega
  | succ j =>
    rw [List.replicate_succ] at hf ⊢
    by_cases h : j + 1 ≤ 8
    · rw [if_pos h] at hf ⊢
      rw [restL_word 0 hc hf, List.drop_eq_nil_of_le (by simp), restL_nil]
    · rw [if_neg h] at hf ⊢
      exact restL_bad 0 hc hf

end Go.Proofs.YtgfaaeloppdkkaaDoor
