/-
  What WordSigns answers of every byte: true; in whatever world in which the package variables stand.
-/
import Derived.Test.YtgfaaeloppdkkaaDoorWKnown
namespace Go.Proofs.YtgfaaeloppdkkaaDoor
open Go.RowKit Go.Shelf

theorem conv1 {W : World} {B : Nat} {n : Int} (h : W.cell? ⟨B, 0, none⟩ = some (.int .u8 n)) : (convert 34 9 (.slice (some ⟨B, 0, none⟩) 1 1)).run Tryd.prog W = .ok (.string (strOfNums [n])) W :=
  run_convert_bytes_arg W 34 5 Tryd.underlying34 Tryd.underlying5 B 0 1 1 [n] rfl (fun i hi => by obtain rfl : i = 0 := by omega
                                                                                                  simpa using h) 9 Tryd.underlying9

theorem append_list (a b : ByteArray) : (a ++ b).data.toList = a.data.toList ++ b.data.toList := by simp
theorem eq_of_list {a b : ByteArray} (h : a.data.toList = b.data.toList) : a = b := by
  cases a; cases b; simp at h; simp [h]

/-- The text that is cut. -/
def sgText (S : ByteArray) : ByteArray := ⟨#[97, 32]⟩ ++ S ++ ⟨#[61, 32, 98]⟩
theorem sgText_list (S : ByteArray) (b : UInt8) (hS : S.data.toList = [b]) : (sgText S).data.toList = [97, 32, b, 61, 32, 98] := by
  rw [sgText, append_list, append_list, hS]; rfl
theorem sgText_size (S : ByteArray) (b : UInt8) (hS : S.data.toList = [b]) : (sgText S).size ≤ 281474976710656 := by
  have : (sgText S).size = (sgText S).data.toList.length := (Array.length_toList ..).symm
  rw [this, sgText_list S b hS]; simp

theorem signQ_of (b : UInt8) : signQ b = true := by
  have := signQ_all ⟨b.toNat, UInt8.toNat_lt b⟩
  rwa [UInt8.ofNat_toNat] at this

/-- The signs' bytes. -/
def sgL : List Nat := [40, 41, 91, 93, 58, 124, 44, 43, 33, 46, 45, 42, 61, 60]

theorem cut_sign2 (S : ByteArray) (b : UInt8) (hS : S.data.toList = [b]) (hb : b.toNat = 33 ∨ b.toNat = 60) (w : World) (hV : Vars w) :
    Calls Tryd.prog 10 #[.string (sgText S)] w fun e W' => ∃ g cap, e = .returned (.tuple #[.slice (some ⟨g, 0, none⟩) 3 cap, .nilIface]) ∧ W'.cell? ⟨g, 5, none⟩ = some (.string (S ++ ⟨#[61]⟩)) ∧ Below w.heap.size w W' := by
  have hq := signQ_of b
  unfold signQ at hq
  simp only [hb, if_true, Bool.and_eq_true, beq_iff_eq] at hq
  obtain ⟨h0, hl⟩ := hq
  have hw : cutL [97, 32, b, 61, 32, 98] = [.word 1 [97] 0 0, .word 5 [b, 61] 0 2, .word 1 [98] 0 5] := by rw [wordsL, if_pos h0] at hl; exact hl
  refine (cut_ok _ w hV (sgText_size S b hS) _ ((congrArg cutL (sgText_list S b hS)).trans hw) rfl (by simp)).mono ?_
  rintro e W' ⟨g, cap, rfl, ⟨_, _, hc⟩, hb1⟩
  refine ⟨g, cap, rfl, ?_, hb1⟩
  have := unhide hc 5 (.string ⟨[b, 61].toArray⟩) rfl
  rw [this, show S ++ ⟨#[61]⟩ = ⟨[b, 61].toArray⟩ from eq_of_list (by rw [append_list, hS]; rfl)]

theorem cut_sign1 (S : ByteArray) (b : UInt8) (hS : S.data.toList = [b]) (hn : ¬ (b.toNat = 33 ∨ b.toNat = 60)) (hb : sgL.contains b.toNat = true) (w : World) (hV : Vars w) :
    Calls Tryd.prog 10 #[.string (sgText S)] w fun e W' => ∃ g cap, e = .returned (.tuple #[.slice (some ⟨g, 0, none⟩) 4 cap, .nilIface]) ∧ (W'.cell? ⟨g, 4, none⟩ = some (.int .i64 5) ∧ W'.cell? ⟨g, 5, none⟩ = some (.string S) ∧ W'.cell? ⟨g, 9, none⟩ = some (.string ⟨#[61]⟩)) ∧ Below w.heap.size w W' := by
  have hq := signQ_of b
  unfold signQ at hq
  simp only [hn, if_false] at hq
  rw [if_pos (show ([40, 41, 91, 93, 58, 124, 44, 43, 33, 46, 45, 42, 61, 60] : List Nat).contains b.toNat = true from hb)] at hq
  simp only [Bool.and_eq_true, beq_iff_eq] at hq
  obtain ⟨h0, hl⟩ := hq
  have hw : cutL [97, 32, b, 61, 32, 98] = [.word 1 [97] 0 0, .word 5 [b] 0 2, .word 5 [61] 0 3, .word 1 [98] 0 5] := by rw [wordsL, if_pos h0] at hl; exact hl
  refine (cut_ok _ w hV (sgText_size S b hS) _ ((congrArg cutL (sgText_list S b hS)).trans hw) rfl (by simp)).mono ?_
  rintro e W' ⟨g, cap, rfl, ⟨_, _, hc⟩, hb1⟩
  refine ⟨g, cap, rfl, ⟨unhide hc 4 _ rfl, ?_, unhide hc 9 _ rfl⟩, hb1⟩
  have := unhide hc 5 (.string ⟨[b].toArray⟩) rfl
  rw [this, show S = ⟨[b].toArray⟩ from eq_of_list hS]

/-- A blank, a digit, a letter. -/
def plainQ (b : UInt8) : Bool := decide (b.toNat = 32) || inB 48 57 b.toNat || inB 97 122 b.toNat || inB 65 90 b.toNat

theorem cut_signC (S : ByteArray) (b : UInt8) (hS : S.data.toList = [b]) (hn : ¬ (b.toNat = 33 ∨ b.toNat = 60)) (hb : sgL.contains b.toNat = false) (hp : plainQ b = true) (w : World) (hV : Vars w) :
    Calls Tryd.prog 10 #[.string (sgText S)] w fun e W' => ∃ (a : Option Addr) (m cap : Nat), e = .returned (.tuple #[.slice a m cap, .nilIface]) ∧ ((m : Int) == 4) = (b.toNat != 32) ∧ Below w.heap.size w W' := by
  have hq := signQ_of b
  unfold signQ at hq
  simp only [hn, if_false] at hq
  rw [if_neg (by rw [show ([40, 41, 91, 93, 58, 124, 44, 43, 33, 46, 45, 42, 61, 60] : List Nat).contains b.toNat = false from hb]; decide), if_pos (by simpa [plainQ, or_assoc] using hp)] at hq
  simp only [Bool.and_eq_true, beq_iff_eq] at hq
  obtain ⟨h0, hl⟩ := hq
  refine (cut10_c _ w hV (sgText_size S b hS)).mono ?_
  rintro e W' ⟨v, rfl, hrow, hb1⟩
  rw [sgText_list S b hS] at hrow
  obtain ⟨a, cap, rfl⟩ := owns_form hrow
  refine ⟨a, _, cap, by rw [sgText_list S b hS, h0]; rfl, ?_, hb1⟩
  rw [← hl]
  generalize (wordsL [97, 32, b, 61, 32, 98]).length = m
  clear hl hrow hb1 h0
  by_cases hm : m = 4
  · subst hm; rfl
  · have h4 : ¬ (m : Int) = 4 := by omega
    rw [beq_eq_false_iff_ne.2 h4, beq_eq_false_iff_ne.2 hm]

theorem cut_signD (S : ByteArray) (b : UInt8) (hS : S.data.toList = [b]) (hn : ¬ (b.toNat = 33 ∨ b.toNat = 60)) (hb : sgL.contains b.toNat = false) (hp : plainQ b = false) (w : World) (hV : Vars w) :
    Calls Tryd.prog 10 #[.string (sgText S)] w fun e W' => ∃ a cap, e = .returned (.tuple #[.slice a 0 cap, errV 21]) ∧ Below w.heap.size w W' := by
  have hq := signQ_of b
  unfold signQ at hq
  simp only [hn, if_false] at hq
  rw [if_neg (by rw [show ([40, 41, 91, 93, 58, 124, 44, 43, 33, 46, 45, 42, 61, 60] : List Nat).contains b.toNat = false from hb]; decide), if_neg (by simpa [plainQ, and_assoc] using hp)] at hq
  simp only [Bool.and_eq_true, beq_iff_eq] at hq
  exact cut_err _ w hV (sgText_size S b hS) 21 (by rw [sgText_list S b hS]; exact hq.1) (by decide)

/-- Is it one of the first k signs? -/
def sgTo (n : Int) (k : Nat) : Bool := (sgL.take k).any fun x => decide ((x : Int) = n)
theorem sgTo_succ (n : Int) (k : Nat) (h : k < sgL.length) : sgTo n (k + 1) = (sgTo n k || decide ((sgL[k] : Int) = n)) := by
  rw [sgTo, List.take_succ_eq_append_getElem h, List.any_append]; simp [sgTo]
def sgS : ByteArray := ⟨#[40, 41, 91, 93, 58, 124, 44, 43, 33, 46, 45, 42, 61, 60]⟩
theorem sgS_at (k : Nat) (h : k < 14) : (sgS[k]'h).toNat = sgL[k]'h := by
  match k, h with
  | 0, _ | 1, _ | 2, _ | 3, _ | 4, _ | 5, _ | 6, _ | 7, _ | 8, _ | 9, _ | 10, _ | 11, _ | 12, _ | 13, _ => rfl
  | k + 14, h => omega
theorem sgTo_all (b : UInt8) : sgTo b.toNat 14 = sgL.contains b.toNat := by
  have : ∀ m : Fin 256, sgTo m.val 14 = sgL.contains m.val := by decide +kernel
  exact this ⟨b.toNat, UInt8.toNat_lt b⟩

end Go.Proofs.YtgfaaeloppdkkaaDoor
