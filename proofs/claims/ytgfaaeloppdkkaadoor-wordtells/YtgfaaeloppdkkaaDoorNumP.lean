/-
  Numbers written in decimal, as plain lists: what is cut of them.
-/
import Derived.Test.YtgfaaeloppdkkaaDoorSignsP
import Derived.Test.YtgfaaeloppdkkaaDoorWNum
namespace Go.Proofs.YtgfaaeloppdkkaaDoor
open Go.RowKit Go.Shelf

/-- A digit. -/
def digC (d : Nat) : UInt8 := UInt8.ofNat (48 + d)
theorem digC_val (d : Nat) (h : d < 10) : (digC d).toNat = 48 + d := by rw [digC, UInt8.toNat_ofNat']; omega
/-- A number's digits. -/
def natL (n : Nat) : List UInt8 := if n < 10 then [digC n] else natL (n / 10) ++ [digC (n % 10)]
termination_by n
theorem natL_small {n : Nat} (h : n < 10) : natL n = [digC n] := by rw [natL, if_pos h]
theorem natL_big {n : Nat} (h : ¬ n < 10) : natL n = natL (n / 10) ++ [digC (n % 10)] := by rw [natL, if_neg h]

/-- What digits spell, behind what was spelled. -/
def valL (acc : Nat) (l : List UInt8) : Nat := l.foldl (fun a c => a * 10 + (c.toNat - 48)) acc
theorem valL_append (acc : Nat) (a b : List UInt8) : valL acc (a ++ b) = valL (valL acc a) b := List.foldl_append ..
theorem valL_ge (l : List UInt8) : ∀ acc, acc ≤ valL acc l := by
  induction l with
  | nil => intro acc; exact Nat.le_refl _
  | cons c r ih =>
    intro acc
    refine Nat.le_trans ?_ (ih (acc * 10 + (c.toNat - 48)))
    omega
theorem natL_digits (n : Nat) : allB 48 57 (natL n) = true := by
  induction n using natL.induct with
  | case1 n h => rw [natL_small h]; simp [allB, inB, digC_val n h]; omega
  | case2 n h ih =>
    rw [natL_big h, allB, List.all_append]
    rw [allB] at ih
    rw [ih]
    have := digC_val (n % 10) (Nat.mod_lt _ (by decide))
    simp [inB, this]; omega
theorem natL_val (n : Nat) : valL 0 (natL n) = n := by
  induction n using natL.induct with
  | case1 n h => rw [natL_small h]; simp [valL, digC_val n h]
  | case2 n h ih =>
    rw [natL_big h, valL_append, ih]
    have := digC_val (n % 10) (Nat.mod_lt _ (by decide))
    simp [valL, this]; omega
theorem natL_ne (n : Nat) : natL n ≠ [] := by
  by_cases h : n < 10
  · rw [natL_small h]; simp
  · rw [natL_big h]; simp

theorem parseM_ok : ∀ (l : List UInt8) (acc : Nat), allB 48 57 l = true → valL acc l ≤ 9223372036854775808 → Lib.parseUintM (2 ^ 64 - 1) acc l = .ok (valL acc l)
  | [], _, _, _ => rfl
  | c :: r, acc, h, hv => by
    simp only [allB, List.all_cons, Bool.and_eq_true] at h
    have hc : 48 ≤ c.toNat ∧ c.toNat ≤ 57 := by have := h.1; simp [inB] at this; omega
    have he : valL acc (c :: r) = valL (acc * 10 + (c.toNat - 48)) r := rfl
    have hg := valL_ge r (acc * 10 + (c.toNat - 48))
    rw [he] at hv ⊢
    rw [Lib.parseUintM, if_pos hc, if_neg (by omega), if_neg (by omega)]
    exact parseM_ok r _ h.2 hv
theorem parseB_nat (n : Nat) (hn : n ≤ 9223372036854775808) : Lib.parseUintB 64 (natL n) = .ok n := by
  rw [Lib.parseUintB, if_neg (natL_ne n), parseM_ok _ _ (natL_digits n) (by rw [natL_val]; exact hn), natL_val]
theorem digit_head {l : List UInt8} {c : UInt8} {r : List UInt8} (h : allB 48 57 l = true) (e : l = c :: r) : 48 ≤ c.toNat ∧ c.toNat ≤ 57 := by
  rw [e] at h
  simp only [allB, List.all_cons, Bool.and_eq_true] at h
  have := h.1
  simp [inB] at this; omega
theorem parseI_pos (n : Nat) (hn : n < 9223372036854775808) : Lib.parseIntB 64 (natL n) = .ok (n : Int) := by
  have hb := parseB_nat n (by omega)
  cases e : natL n with
  | nil => exact absurd e (natL_ne n)
  | cons c r =>
    have hc := digit_head (natL_digits n) e
    rw [e] at hb
    simp only [Lib.parseIntB]
    rw [if_neg (by omega), hb]
    simp only
    rw [if_neg (by omega), if_neg (by omega), if_neg (by omega)]
theorem parseI_neg (n : Nat) (hn : n ≤ 9223372036854775808) : Lib.parseIntB 64 (45 :: natL n) = .ok (-(n : Int)) := by
  have hb := parseB_nat n hn
  simp only [Lib.parseIntB]
  rw [if_pos (by decide), hb]
  simp only
  rw [if_neg (by simp), if_neg (by have : ¬ 2 ^ (64 - 1) < n := by omega
                                   simp; omega), if_pos (by decide)]

/-- A number as it is written. -/
def decL (n : Int) : List UInt8 := if n < 0 then 45 :: natL n.natAbs else natL n.natAbs
theorem leadL_nat (n : Nat) : leadL 48 57 (natL n) = natL n := leadL_whole (natL_digits n)
theorem firstW_pos (n : Nat) (hn : n < 9223372036854775808) : firstW (natL n) = .word 2 [] n (natL n).length := by
  cases e : natL n with
  | nil => exact absurd e (natL_ne n)
  | cons c r =>
    have hc := digit_head (natL_digits n) e
    have h45 : ¬ (c = 45) := by rintro rfl; revert hc; decide
    have h1 : inB 97 122 c.toNat = false := by simp [inB]; omega
    have h2 : inB 65 90 c.toNat = false := by simp [inB]; omega
    have h3 : isNumL (c :: r) = true := by simp [isNumL, h45, inB]; omega
    rw [firstW_num (c :: r) c rfl h1 h2 h3, numW, num_take]
    have hm : minusL (c :: r) = 0 := by simp [minusL, h45]
    have hl : leadL 48 57 (c :: r) = c :: r := by rw [← e]; exact leadL_nat n
    have hn2 : numLen (c :: r) = (c :: r).length := by rw [numLen, hm, List.drop_zero, hl]; simp
    rw [hm, List.drop_zero, hl, hn2]
    simp only [List.head?_cons, Option.some.injEq, h45, if_false, List.nil_append]
    rw [← e, parseI_pos n hn]
theorem firstW_neg (n : Nat) (hn : n ≤ 9223372036854775808) : firstW (45 :: natL n) = .word 2 [] (-(n : Int)) (natL n).length.succ := by
  have h1 : inB 97 122 (45 : UInt8).toNat = false := rfl
  have h2 : inB 65 90 (45 : UInt8).toNat = false := rfl
  have h3 : isNumL (45 :: natL n) = true := by
    cases e : natL n with
    | nil => exact absurd e (natL_ne n)
    | cons c r =>
      have hc := digit_head (natL_digits n) e
      simp [isNumL, inB]; omega
  rw [firstW_num _ 45 rfl h1 h2 h3, numW, num_take]
  have hm : minusL (45 :: natL n) = 1 := rfl
  have hn2 : numLen (45 :: natL n) = (natL n).length.succ := by rw [numLen, hm, List.drop_succ_cons, List.drop_zero, leadL_nat]; omega
  rw [hm, List.drop_succ_cons, List.drop_zero, leadL_nat, hn2]
  simp only [List.head?_cons, if_true, List.cons_append, List.nil_append]
  rw [parseI_neg n hn]
theorem cutL_dec (n : Int) (lo : -9223372036854775808 ≤ n) (hi : n ≤ 9223372036854775807) : cutL (decL n) = [.word 2 [] n 0] := by
  show restL 0 (decL n) = _
  unfold decL
  split
  · rename_i h
    have hf := firstW_neg n.natAbs (by omega)
    rw [restL_word 0 (by decide) hf, List.drop_eq_nil_of_le (by simp), restL_nil, show -(n.natAbs : Int) = n by omega]
  · rename_i h
    have hf := firstW_pos n.natAbs (by omega)
    have hd := natL_digits n.natAbs
    cases e : natL n.natAbs with
    | nil => exact absurd e (natL_ne _)
    | cons c r =>
      have hc := digit_head hd e
      rw [e] at hf
      rw [restL_word 0 (by omega) hf, List.drop_eq_nil_of_le (by simp), restL_nil, show (n.natAbs : Int) = n by omega]

theorem numK1 : errL 0 (cutL [57, 50, 50, 51, 51, 55, 50, 48, 51, 54, 56, 53, 52, 55, 55, 53, 56, 48, 56]) = 12 := by decide +kernel
theorem numK2 : errL 0 (cutL [45, 57, 50, 50, 51, 51, 55, 50, 48, 51, 54, 56, 53, 52, 55, 55, 53, 56, 48, 57]) = 12 := by decide +kernel
theorem numK3 : cutL [57, 50, 50, 51, 51, 55, 50, 48, 51, 54, 56, 53, 52, 55, 55, 53, 56, 48, 55] = [.word 2 [] 9223372036854775807 0] := by decide +kernel
theorem numK4 : cutL [45, 57, 50, 50, 51, 51, 55, 50, 48, 51, 54, 56, 53, 52, 55, 55, 53, 56, 48, 56] = [.word 2 [] (-9223372036854775808) 0] := by decide +kernel

def natB (n : Nat) : ByteArray := ⟨(natL n).toArray⟩
theorem natB_succ (n : Nat) (h : ¬ n < 10) : natB (n / 10) ++ ⟨#[digC (n % 10)]⟩ = natB n := eq_of_list (by rw [append_list]; exact (natL_big h).symm)
theorem natL_len (k : Nat) : ∀ n, n < 10 ^ (k + 1) → (natL n).length ≤ k + 1 := by
  induction k with
  | zero => intro n h; rw [natL_small (by omega)]; simp
  | succ k ih =>
    intro n h
    by_cases h10 : n < 10
    · rw [natL_small h10]; simp
    · rw [natL_big h10, List.length_append]
      have := ih (n / 10) (by rw [Nat.pow_succ] at h; omega)
      simp; omega
theorem natB_size (n : Nat) (h : n < 18446744073709551616) : (natB n).size ≤ 20 := by
  rw [show (natB n).size = (natL n).length from List.size_toArray ..]
  exact natL_len 19 n (by omega)

end Go.Proofs.YtgfaaeloppdkkaaDoor
