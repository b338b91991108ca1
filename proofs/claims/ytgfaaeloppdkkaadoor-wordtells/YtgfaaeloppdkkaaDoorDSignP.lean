/-
  The sign that a text begins with, as the document asks it: two bytes first, then one of fourteen.
-/
import Derived.Test.YtgfaaeloppdkkaaDoorDNumD
namespace Go.Proofs.YtgfaaeloppdkkaaDoor
open Go.RowKit Go.Shelf

def sign1 : List UInt8 := [40, 41, 91, 93, 58, 124, 44, 43, 33, 46, 45, 42, 61, 60]
theorem sign_two (a b : UInt8) (r : List UInt8) (h : (a = 33 ∧ b = 61) ∨ (a = 60 ∧ b = 61)) : signW (a :: b :: r) = .word 5 [a, b] 0 2 := by
  rcases h with ⟨rfl, rfl⟩ | ⟨rfl, rfl⟩ <;> simp [signW, signsL, List.find?, List.isPrefixOf]
theorem sign_one (a : UInt8) (r : List UInt8) (hno : ∀ b r', r = b :: r' → ¬ ((a = 33 ∧ b = 61) ∨ (a = 60 ∧ b = 61))) (h : a ∈ sign1) : signW (a :: r) = .word 5 [a] 0 1 := by
  have h1 : (([33, 61] : List UInt8).isPrefixOf (a :: r)) = false := by
    cases r with
    | nil => simp [List.isPrefixOf]
    | cons b r' =>
      have := hno b r' rfl
      simp only [List.isPrefixOf, Bool.and_true, Bool.and_eq_false_iff, beq_eq_false_iff_ne, ne_eq]
      by_cases ha : a = 33
      · right; intro hb; exact this (.inl ⟨ha, hb.symm⟩)
      · left; intro e; exact ha e.symm
  have h2 : (([60, 61] : List UInt8).isPrefixOf (a :: r)) = false := by
    cases r with
    | nil => simp [List.isPrefixOf]
    | cons b r' =>
      have := hno b r' rfl
      simp only [List.isPrefixOf, Bool.and_true, Bool.and_eq_false_iff, beq_eq_false_iff_ne, ne_eq]
      by_cases ha : a = 60
      · right; intro hb; exact this (.inr ⟨ha, hb.symm⟩)
      · left; intro e; exact ha e.symm
  rw [signW, signsL, List.find?_cons, h1, List.find?_cons, h2]
  simp only [sign1, List.mem_cons, List.not_mem_nil, or_false] at h
  rcases h with rfl | rfl | rfl | rfl | rfl | rfl | rfl | rfl | rfl | rfl | rfl | rfl | rfl | rfl <;> simp [List.find?, List.isPrefixOf]
theorem sign_none (a : UInt8) (r : List UInt8) (h : a ∉ sign1) : signW (a :: r) = .bad 21 := by
  simp only [sign1, List.mem_cons, List.not_mem_nil, or_false, not_or] at h
  obtain ⟨h1, h2, h3, h4, h5, h6, h7, h8, h9, h10, h11, h12, h13, h14⟩ := h
  have e : ∀ t ∈ signsL, (t.isPrefixOf (a :: r)) = false := by
    intro t ht
    simp only [signsL, List.mem_cons, List.not_mem_nil, or_false] at ht
    rcases ht with rfl | rfl | rfl | rfl | rfl | rfl | rfl | rfl | rfl | rfl | rfl | rfl | rfl | rfl | rfl | rfl <;>
      (simp only [List.isPrefixOf, Bool.and_eq_false_iff, beq_eq_false_iff_ne, ne_eq]; left; intro e; subst e; simp_all)
  rw [signW, List.find?_eq_none.2 (by intro t ht; rw [e t ht]; decide)]

end Go.Proofs.YtgfaaeloppdkkaaDoor
