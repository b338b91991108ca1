/-
  Texts in quotes, written with a backslash ahead of each quote and backslash, as plain lists: what is cut of them.
-/
import Derived.Test.YtgfaaeloppdkkaaDoorSignsP
namespace Go.Proofs.YtgfaaeloppdkkaaDoor
open Go.RowKit Go.Shelf

/-- A byte as it is written between quotes. -/
def escC (c : UInt8) : List UInt8 := if c.toNat = 34 ∨ c.toNat = 92 then [92, c] else [c]
def escL (l : List UInt8) : List UInt8 := l.flatMap escC
theorem escL_snoc (l : List UInt8) (c : UInt8) : escL (l ++ [c]) = escL l ++ escC c := by simp [escL]
theorem escL_len (l : List UInt8) : (escL l).length ≤ 2 * l.length := by
  induction l with
  | nil => simp [escL]
  | cons c r ih =>
    rw [escL, List.flatMap_cons, List.length_append]
    have : (escC c).length ≤ 2 := by unfold escC; split <;> simp
    rw [escL] at ih
    rw [List.length_cons]; omega
theorem inB_esc {c : UInt8} (h : c.toNat = 34 ∨ c.toNat = 92) : inB 32 126 c.toNat = true := by rcases h with h | h <;> rw [h] <;> rfl

theorem endL_esc (l : List UInt8) : endL (escL l ++ [34]) = if allB 32 126 l = true then some ((escL l).length + 1) else none := by
  induction l with
  | nil => rfl
  | cons c r ih =>
    have e : escL (c :: r) = escC c ++ escL r := by simp [escL]
    have ha : allB 32 126 (c :: r) = (inB 32 126 c.toNat && allB 32 126 r) := by simp [allB]
    rw [e, ha]
    by_cases h : c.toNat = 34 ∨ c.toNat = 92
    · rw [escC, if_pos h, inB_esc h, Bool.true_and]
      have e2 : ([92, c] ++ escL r) ++ [34] = 92 :: c :: (escL r ++ [34]) := by simp
      rw [e2, endL]
      rw [if_neg (by decide), if_pos (by decide), if_pos h, ih]
      split
      · simp
      · rfl
    · rw [escC, if_neg h]
      have e2 : ([c] ++ escL r) ++ [34] = c :: (escL r ++ [34]) := by simp
      rw [e2, endL.eq_def]
      simp only
      rw [if_neg (fun q => h (.inl q)), if_neg (fun q => h (.inr q))]
      cases hc : inB 32 126 c.toNat
      · simp
      · rw [if_pos rfl, Bool.true_and, ih]
        split
        · simp
        · rfl
theorem bareL_esc (l : List UInt8) : bareL (escL l) = l := by
  induction l with
  | nil => rfl
  | cons c r ih =>
    have e : escL (c :: r) = escC c ++ escL r := by simp [escL]
    rw [e]
    by_cases h : c.toNat = 34 ∨ c.toNat = 92
    · rw [escC, if_pos h]
      show bareL (92 :: c :: escL r) = _
      rw [bareL, if_pos (by decide), ih]
    · rw [escC, if_neg h]
      show bareL (c :: escL r) = _
      rw [bareL.eq_def]
      simp only
      rw [if_neg (fun q => h (.inr q)), ih]

theorem firstW_quote (r : List UInt8) : firstW (34 :: r) = textW (34 :: r) :=
  firstW_text _ 34 rfl rfl rfl rfl rfl
theorem textW_esc (l : List UInt8) : textW (34 :: (escL l ++ [34])) = if allB 32 126 l = true then (if l.length ≤ 16 then .word 3 l 0 ((escL l).length + 2) else .bad 12) else .bad 21 := by
  rw [textW]
  simp only [List.drop_succ_cons, List.drop_zero]
  rw [endL_esc]
  by_cases h : allB 32 126 l = true
  · rw [if_pos h, if_pos h]
    simp only [Nat.add_sub_cancel]
    rw [List.take_append_of_le_length (Nat.le_refl _), List.take_length, bareL_esc]
  · rw [if_neg h, if_neg h]
theorem cutL_esc (l : List UInt8) : cutL (34 :: (escL l ++ [34])) = if allB 32 126 l = true then (if l.length ≤ 16 then [.word 3 l 0 0] else [.bad 12]) else [.bad 21] := by
  have hf := (firstW_quote (escL l ++ [34])).trans (textW_esc l)
  show restL 0 (34 :: (escL l ++ [34])) = _
  by_cases h : allB 32 126 l = true
  · rw [if_pos h] at hf ⊢
    by_cases h16 : l.length ≤ 16
    · rw [if_pos h16] at hf ⊢
      rw [restL_word 0 (by decide) hf, List.drop_eq_nil_of_le (by simp), restL_nil]
    · rw [if_neg h16] at hf ⊢
      exact restL_bad 0 (by decide) hf
  · rw [if_neg h] at hf ⊢
    exact restL_bad 0 (by decide) hf

def escB (l : List UInt8) : ByteArray := ⟨(escL l).toArray⟩
theorem escB_size (l : List UInt8) : (escB l).size ≤ 2 * l.length := by
  rw [show (escB l).size = (escL l).length from List.size_toArray ..]; exact escL_len l
theorem ext_one (s : ByteArray) (k : Nat) (h : k < s.size) : (s.extract k (k + 1)).data.toList = [s[k]] := by
  have hl : (s.data.toList.take k).length = k := by
    rw [List.length_take, Array.length_toList]; exact Nat.min_eq_left (Nat.le_of_lt h)
  rw [ext_list, take_snoc s k h, List.drop_append_of_le_length (by omega), List.drop_eq_nil_of_le (by omega)]
  rfl
theorem escB_slash (s : ByteArray) (k : Nat) (h : k < s.size) (hc : s[k].toNat = 34 ∨ s[k].toNat = 92) :
    (escB (s.data.toList.take k) ++ ⟨#[92]⟩) ++ s.extract k (k + 1) = escB (s.data.toList.take (k + 1)) := by
  refine eq_of_list ?_
  rw [append_list, append_list, ext_one s k h, take_snoc s k h]
  show escL _ ++ [92] ++ [s[k]] = escL _
  rw [escL_snoc, escC, if_pos hc]; simp
theorem escB_plain (s : ByteArray) (k : Nat) (h : k < s.size) (hc : ¬ (s[k].toNat = 34 ∨ s[k].toNat = 92)) :
    escB (s.data.toList.take k) ++ s.extract k (k + 1) = escB (s.data.toList.take (k + 1)) := by
  refine eq_of_list ?_
  rw [append_list, ext_one s k h, take_snoc s k h]
  show escL _ ++ [s[k]] = escL _
  rw [escL_snoc, escC, if_neg hc]

end Go.Proofs.YtgfaaeloppdkkaaDoor
