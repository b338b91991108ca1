/-
  What the document's functions on values and names answer (package pasternref1, layer 1): the same as the program's, for every argument, in whatever world.
-/
import Derived.Test.YtfofpenajkaalaaDoorPatt8
namespace Go.Proofs.YtfofpenajkaalaaDoor
open Go.RowKit



set_option maxHeartbeats 1000000 in
theorem refPlain_c (s : ByteArray) (w : World) (hs : s.size ≤ maxLen) :
    Calls Tryd.prog 44 #[.string s] w fun e w' => e = .returned (.bool (isTextB s)) ∧ w' = w := by
  unfold maxLen at hs
  go_enter Tryd.func44, Tryd.ntmps44
  go_wp2
  go_loop [3] (fun i => ∃ k : Nat, k ≤ s.size ∧ i = .int .i64 k ∧ Hid (allB 32 126 (s.data.toList.take k) = true)) (fun i => s.size - (intOf i).toNat)
  case atStart => exact ⟨0, Nat.zero_le _, rfl, hide rfl⟩
  case round =>
    obtain ⟨k, hk, rfl, H⟩ := hrel
    by_cases hlt : k < s.size
    · by_cases h1 : (s[k].toNat : Int) < 32
      · have Hn := hide (show isTextB s = false by unfold isTextB; rw [allB_no 32 126 s k hlt (by simp [inB]; omega), Bool.and_false])
        go_wp2
        go_ret
        exact ⟨by rw [unhide Hn]; rfl, rfl⟩
      · by_cases h2 : 126 < (s[k].toNat : Int)
        · have Hn := hide (show isTextB s = false by unfold isTextB; rw [allB_no 32 126 s k hlt (by simp [inB]; omega), Bool.and_false])
          go_wp2
          go_ret
          exact ⟨by rw [unhide Hn]; rfl, rfl⟩
        · have Hs := hide (show allB 32 126 (s.data.toList.take (k + 1)) = true by rw [take_snoc s k hlt, allB_snoc, unhide H]; simp [inB]; omega)
          go_wp2
          go_round
          case rel => exact ⟨k + 1, by omega, by go_num, Hs⟩
          case measure => simp [intOf]; omega
    · have e : allB 32 126 s.data.toList = true := by
        have := unhide H
        rwa [List.take_of_length_le (by simp; omega)] at this
      have Hn := hide (show isTextB s = decide ((s.size : Int) ≤ 16) by unfold isTextB; rw [e, Bool.and_true]; congr 1; simp; omega)
      clear e
      go_wp2
      go_ret
      exact ⟨by rw [unhide Hn]; rfl, rfl⟩

set_option maxHeartbeats 1000000 in
theorem refName_c (s : ByteArray) (w : World) (hs : s.size ≤ maxLen) :
    Calls Tryd.prog 30 #[.string s] w fun e w' => e = .returned (.bool (nameB s)) ∧ w' = w := by
  unfold maxLen at hs
  go_enter Tryd.func30, Tryd.ntmps30
  go_wp2
  go_loop [3] (fun i => ∃ k : Nat, k ≤ s.size ∧ i = .int .i64 k ∧ Hid (allB 97 122 (s.data.toList.take k) = true)) (fun i => s.size - (intOf i).toNat)
  case atStart => exact ⟨0, Nat.zero_le _, rfl, hide rfl⟩
  case round =>
    obtain ⟨k, hk, rfl, H⟩ := hrel
    by_cases hlt : k < s.size
    · by_cases h1 : (s[k].toNat : Int) < 97
      · have Hn := hide (show nameB s = false by unfold nameB; rw [allB_no 97 122 s k hlt (by simp [inB]; omega), Bool.and_false])
        go_wp2
        go_ret
        exact ⟨by rw [unhide Hn]; rfl, rfl⟩
      · by_cases h2 : 122 < (s[k].toNat : Int)
        · have Hn := hide (show nameB s = false by unfold nameB; rw [allB_no 97 122 s k hlt (by simp [inB]; omega), Bool.and_false])
          go_wp2
          go_ret
          exact ⟨by rw [unhide Hn]; rfl, rfl⟩
        · have Hs := hide (show allB 97 122 (s.data.toList.take (k + 1)) = true by rw [take_snoc s k hlt, allB_snoc, unhide H]; simp [inB]; omega)
          go_wp2
          go_round
          case rel => exact ⟨k + 1, by omega, by go_num, Hs⟩
          case measure => simp [intOf]; omega
    · have e : allB 97 122 s.data.toList = true := by
        have := unhide H
        rwa [List.take_of_length_le (by simp; omega)] at this
      by_cases h1 : (1 : Int) ≤ s.size
      · have Hn := hide (show nameB s = decide ((s.size : Int) ≤ 8) by unfold nameB; rw [e, Bool.and_true, decide_eq_true (show 1 ≤ s.size by omega), Bool.true_and]; congr 1; simp; omega)
        clear e
        go_wp2
        go_ret
        exact ⟨by rw [unhide Hn]; rfl, rfl⟩
      · have Hn := hide (show nameB s = false by unfold nameB; rw [decide_eq_false (show ¬ 1 ≤ s.size by omega)]; rfl)
        clear e
        go_wp2
        go_ret
        exact ⟨by rw [unhide Hn]; rfl, rfl⟩

set_option maxHeartbeats 400000 in
theorem refIs_c (k n : Int) (s : ByteArray) (w : World) (hs : s.size ≤ maxLen) :
    Calls Tryd.prog 22 #[.agg #[.int .i64 k, .int .i64 n, .string s]] w fun e w' => e = .returned (.bool (isB k n s)) ∧ Below w.heap.size w w' := by
  by_cases h1 : k = 1
  · subst h1
    have H := hide (show isB 1 n s = s.toList.isEmpty by simp [isB])
    go_enter Tryd.func22, Tryd.ntmps22
    go_wp2
    go_ret
    exact ⟨by rw [unhide H]; rfl, (Below.refl _ _).alloc (Nat.le_refl _) _⟩
  by_cases h2 : k = 2
  · subst h2
    by_cases hn : n = 0
    · subst hn
      have H := hide (show isB 2 0 s = isTextB s by simp [isB])
      clear h1
      go_enter Tryd.func22, Tryd.ntmps22
      go_wp2_with (go_at_call 44; refine (refPlain_c _ _ hs).mono ?_; rintro e w2 ⟨rfl, rfl⟩)
      go_ret
      exact ⟨by rw [unhide H]; rfl, (Below.refl _ _).alloc (Nat.le_refl _) _⟩
    · have H := hide (show isB 2 n s = false by simp [isB, hn])
      have hn' : (n == 0) = false := by simp [hn]
      clear hn h1
      go_enter Tryd.func22, Tryd.ntmps22
      go_wp2
      go_ret
      exact ⟨by rw [unhide H]; rfl, (Below.refl _ _).alloc (Nat.le_refl _) _⟩
  by_cases h3 : k = 3
  · subst h3
    clear h1 h2
    by_cases hn : n = 0
    · subst hn
      have H := hide (show isB 3 0 s = s.toList.isEmpty by simp [isB, inB])
      go_enter Tryd.func22, Tryd.ntmps22
      go_wp2
      go_ret
      exact ⟨by rw [unhide H]; rfl, (Below.refl _ _).alloc (Nat.le_refl _) _⟩
    · have hn' : (n == 0) = false := by simp [hn]
      by_cases hm : n = 1
      · subst hm
        have H := hide (show isB 3 1 s = s.toList.isEmpty by simp [isB, inB])
        clear hn hn'
        go_enter Tryd.func22, Tryd.ntmps22
        go_wp2
        go_ret
        exact ⟨by rw [unhide H]; rfl, (Below.refl _ _).alloc (Nat.le_refl _) _⟩
      · have hm' : (n == 1) = false := by simp [hm]
        have H := hide (show isB 3 n s = false by simp [isB, inB]; intro _ _; omega)
        clear hn hm
        go_enter Tryd.func22, Tryd.ntmps22
        go_wp2
        go_ret
        exact ⟨by rw [unhide H]; rfl, (Below.refl _ _).alloc (Nat.le_refl _) _⟩
  · have H := hide (show isB k n s = false by simp [isB, h1, h2, h3])
    have h1' : (k == 1) = false := by simp [h1]
    have h2' : (k == 2) = false := by simp [h2]
    have h3' : (k == 3) = false := by simp [h3]
    clear h1 h2 h3
    go_enter Tryd.func22, Tryd.ntmps22
    go_wp2
    go_ret
    exact ⟨by rw [unhide H]; rfl, (Below.refl _ _).alloc (Nat.le_refl _) _⟩

end Go.Proofs.YtfofpenajkaalaaDoor
