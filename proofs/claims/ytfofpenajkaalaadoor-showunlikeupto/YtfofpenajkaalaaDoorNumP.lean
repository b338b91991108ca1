/-
  Numbers' digits as plain lists; a byte as a text.
-/
import Derived.Test.YtfofpenajkaalaaDoorRef
namespace Go.Proofs.YtfofpenajkaalaaDoor
open Go.RowKit Go.Shelf

theorem conv1 {W : World} {B : Nat} {n : Int} (h : W.cell? ⟨B, 0, none⟩ = some (.int .u8 n)) : (convert 67 9 (.slice (some ⟨B, 0, none⟩) 1 1)).run Tryd.prog W = .ok (.string (strOfNums [n])) W :=
  run_convert_bytes_arg W 67 5 Tryd.underlying67 Tryd.underlying5 B 0 1 1 [n] rfl (fun i hi => by obtain rfl : i = 0 := by omega
                                                                                                  simpa using h) 9 Tryd.underlying9
theorem append_list (a b : ByteArray) : (a ++ b).data.toList = a.data.toList ++ b.data.toList := by simp
/-- A digit. -/
def digC (d : Nat) : UInt8 := UInt8.ofNat (48 + d)
/-- A number's digits. -/
def natL (n : Nat) : List UInt8 := if n < 10 then [digC n] else natL (n / 10) ++ [digC (n % 10)]
theorem natL_small {n : Nat} (h : n < 10) : natL n = [digC n] := by rw [natL, if_pos h]
theorem natL_big {n : Nat} (h : ¬ n < 10) : natL n = natL (n / 10) ++ [digC (n % 10)] := by rw [natL, if_neg h]
/-- A number as it is written. -/
def decL (n : Int) : List UInt8 := if n < 0 then 45 :: natL n.natAbs else natL n.natAbs
def natB (n : Nat) : ByteArray := ⟨(natL n).toArray⟩
theorem natB_succ (n : Nat) (h : ¬ n < 10) : natB (n / 10) ++ ⟨#[digC (n % 10)]⟩ = natB n := eq_of_list (by rw [append_list]; exact (natL_big h).symm)
theorem natL_len (k : Nat) : ∀ n, n < 10 ^ (k + 1) → (natL n).length ≤ k + 1 := by
  induction k with
  | zero => intro n h; rw [natL_small (by omega)]; simp
  | succ k ih =>
    intro n h
    by_cases h10 : n < 10
    · rw [natL_small h10]; simp
    · rw [natL_big h10, List.length_append]
      have := ih (n / 10) (by rw [Nat.pow_succ] at h; omega)
      simp; omega
theorem natB_size (n : Nat) (h : n < 18446744073709551616) : (natB n).size ≤ 20 := by
  rw [show (natB n).size = (natL n).length from List.size_toArray ..]
  exact natL_len 19 n (by omega)

end Go.Proofs.YtfofpenajkaalaaDoor
