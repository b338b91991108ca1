/-
  What WordMany answers: true; in whatever world in which the package variables stand.
-/
import Derived.Test.YtgfaaeloppdkkaaDoorManyV
namespace Go.Proofs.YtgfaaeloppdkkaaDoor
open Go.RowKit Go.Shelf

set_option maxRecDepth 100000 in
set_option maxHeartbeats 4000000 in
theorem many8_sko (n m : Int) (K J : Nat) (hK : (K : Int) = 498 + n % 5) (hJ : (J : Int) = m % 12 + 1) (hK1 : 498 ≤ K) (hK2 : K ≤ 502) (hk : K ≤ 500) (hJ1 : 1 ≤ J) (hJ2 : J ≤ 12) (hj : ¬ J ≤ 8) (lo : 0 ≤ n) (hi : n ≤ 255) (lo1 : 0 ≤ m) (hi1 : m ≤ 255) (w : World) (hV : Vars w) :
    Calls Tryd.prog 8 #[.int .u8 n, .int .u8 m, .bool false] w fun e w' => e = .returned (.bool true) ∧ Below w.heap.size w w' := by
  have HK := hide hK
  have HJ := hide hJ
  have HI := hide (show ∀ w, Calls Tryd.prog 14 #[errV 12, errV 12] w fun e w' => e = .returned (.bool true) ∧ w' = w from fun w => errIs_c 12 12 w)
  clear hK hJ
  go_enter Tryd.func8, Tryd.ntmps8
  go_wp2_with fail
  refine (known9_c _ hV).mono ?_
  rintro e w1 ⟨rfl, hb1⟩
  go_wp2_with fail
  rw [← unhide HK]
  go_loopw [8, 9] (fun p i wr => ∃ k : Nat, k ≤ K ∧ i = .int .i64 k ∧ p = .string (plusB k) ∧ wr = w1) (fun _ i _ => K - (intOf i).toNat)
  case atStart => exact ⟨0, Nat.zero_le _, rfl, rfl, rfl⟩
  case round =>
    obtain ⟨k, hkk, rfl, rfl, rfl⟩ := hrel
    by_cases hlt : k < K
    · have Hp := hide (plusB_succ k)
      have hps := plusB_size k
      have hp2 : (plusB k).size + 2 ≤ 281474976710656 := by omega
      go_wp2
      rw [unhide Hp]
      go_roundw
      case rel => exact ⟨k + 1, by omega, by go_num, rfl, trivial⟩
      case measure => simp [intOf]; omega
    · obtain rfl : k = K := by omega
      have HC := hide (show ∀ w, Vars w → _ from fun w hV => cut_plus_ok k (by omega) hk w hV)
      go_wp2_with fail
      refine (unhide HC _ (hV.up hb1)).mono ?_
      rintro e w2 ⟨g, cap, rfl, hb2⟩
      have hVb := (hV.up hb1).up hb2
      have hbz : Below w.heap.size w w2 := hb1.trans (hb2.mono hb1.size)
      have hk5 : (k : Int) ≤ 500 := by omega
      have hks : ((k : Int) != k) = false := by simp
      go_wp2_with fail
      rw [← unhide HJ]
      go_loopw [13, 14] (fun p i wr => ∃ k : Nat, k ≤ J ∧ i = .int .i64 k ∧ p = .string (repB 97 k) ∧ wr = w2) (fun _ i _ => J - (intOf i).toNat)
      case atStart => exact ⟨0, Nat.zero_le _, rfl, rfl, rfl⟩
      case round =>
        obtain ⟨q, hqq, rfl, rfl, rfl⟩ := hrel
        by_cases hlt2 : q < J
        · have Hq := hide (repB_succ 97 q)
          have hqs := repB_size 97 q
          have hq2 : (repB 97 q).size + 1 ≤ 281474976710656 := by omega
          have pk := pick_a
          go_wp2_with (go_at_call 15; refine (bit15_c false _).mono ?_; rintro e w5 ⟨rfl, rfl⟩)
          rw [unhide Hq]
          go_roundw
          case rel => exact ⟨q + 1, by omega, by go_num, rfl, trivial⟩
          case measure => simp [intOf]; omega
        · obtain rfl : q = J := by omega
          have HD := hide (show ∀ w, Vars w → _ from fun w hV => cut_rep_over 97 1 q hj (by omega) (by decide) (firstW_small q hJ1) w hV)
          go_wp2_with fail
          refine (unhide HD _ (by assumption)).mono ?_
          rintro e w6 ⟨a6, c6, rfl, hb6⟩
          have hbf : Below w.heap.size w w6 := hbz.trans (hb6.mono hbz.size)
          have hj5 : decide ((q : Int) ≤ 8) = false := decide_eq_false (by omega)
          go_wp2_with fail
          go_ret
          exact ⟨rfl, hbf⟩

set_option maxRecDepth 100000 in
set_option maxHeartbeats 4000000 in
theorem many8_bko (n m : Int) (K J : Nat) (hK : (K : Int) = 498 + n % 5) (hJ : (J : Int) = m % 12 + 1) (hK1 : 498 ≤ K) (hK2 : K ≤ 502) (hk : K ≤ 500) (hJ1 : 1 ≤ J) (hJ2 : J ≤ 12) (hj : ¬ J ≤ 8) (lo : 0 ≤ n) (hi : n ≤ 255) (lo1 : 0 ≤ m) (hi1 : m ≤ 255) (w : World) (hV : Vars w) :
    Calls Tryd.prog 8 #[.int .u8 n, .int .u8 m, .bool true] w fun e w' => e = .returned (.bool true) ∧ Below w.heap.size w w' := by
  have HK := hide hK
  have HJ := hide hJ
  have HI := hide (show ∀ w, Calls Tryd.prog 14 #[errV 12, errV 12] w fun e w' => e = .returned (.bool true) ∧ w' = w from fun w => errIs_c 12 12 w)
  clear hK hJ
  go_enter Tryd.func8, Tryd.ntmps8
  go_wp2_with fail
  refine (known9_c _ hV).mono ?_
  rintro e w1 ⟨rfl, hb1⟩
  go_wp2_with fail
  rw [← unhide HK]
  go_loopw [8, 9] (fun p i wr => ∃ k : Nat, k ≤ K ∧ i = .int .i64 k ∧ p = .string (plusB k) ∧ wr = w1) (fun _ i _ => K - (intOf i).toNat)
  case atStart => exact ⟨0, Nat.zero_le _, rfl, rfl, rfl⟩
  case round =>
    obtain ⟨k, hkk, rfl, rfl, rfl⟩ := hrel
    by_cases hlt : k < K
    · have Hp := hide (plusB_succ k)
      have hps := plusB_size k
      have hp2 : (plusB k).size + 2 ≤ 281474976710656 := by omega
      go_wp2
      rw [unhide Hp]
      go_roundw
      case rel => exact ⟨k + 1, by omega, by go_num, rfl, trivial⟩
      case measure => simp [intOf]; omega
    · obtain rfl : k = K := by omega
      have HC := hide (show ∀ w, Vars w → _ from fun w hV => cut_plus_ok k (by omega) hk w hV)
      go_wp2_with fail
      refine (unhide HC _ (hV.up hb1)).mono ?_
      rintro e w2 ⟨g, cap, rfl, hb2⟩
      have hVb := (hV.up hb1).up hb2
      have hbz : Below w.heap.size w w2 := hb1.trans (hb2.mono hb1.size)
      have hk5 : (k : Int) ≤ 500 := by omega
      have hks : ((k : Int) != k) = false := by simp
      go_wp2_with fail
      rw [← unhide HJ]
      go_loopw [13, 14] (fun p i wr => ∃ k : Nat, k ≤ J ∧ i = .int .i64 k ∧ p = .string (repB 65 k) ∧ wr = w2) (fun _ i _ => J - (intOf i).toNat)
      case atStart => exact ⟨0, Nat.zero_le _, rfl, rfl, rfl⟩
      case round =>
        obtain ⟨q, hqq, rfl, rfl, rfl⟩ := hrel
        by_cases hlt2 : q < J
        · have Hq := hide (repB_succ 65 q)
          have hqs := repB_size 65 q
          have hq2 : (repB 65 q).size + 1 ≤ 281474976710656 := by omega
          have pk := pick_A
          go_wp2_with (go_at_call 15; refine (bit15_c true _).mono ?_; rintro e w5 ⟨rfl, rfl⟩)
          rw [unhide Hq]
          go_roundw
          case rel => exact ⟨q + 1, by omega, by go_num, rfl, trivial⟩
          case measure => simp [intOf]; omega
        · obtain rfl : q = J := by omega
          have HD := hide (show ∀ w, Vars w → _ from fun w hV => cut_rep_over 65 4 q hj (by omega) (by decide) (firstW_big q hJ1) w hV)
          go_wp2_with fail
          refine (unhide HD _ (by assumption)).mono ?_
          rintro e w6 ⟨a6, c6, rfl, hb6⟩
          have hbf : Below w.heap.size w w6 := hbz.trans (hb6.mono hbz.size)
          have hj5 : decide ((q : Int) ≤ 8) = false := decide_eq_false (by omega)
          go_wp2_with fail
          go_ret
          exact ⟨rfl, hbf⟩

end Go.Proofs.YtgfaaeloppdkkaaDoor
