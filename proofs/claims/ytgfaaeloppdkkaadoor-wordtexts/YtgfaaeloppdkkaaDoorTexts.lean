/-
  What WordTexts answers of every text: true; in whatever world in which the package variables stand.
-/
import Derived.Test.YtgfaaeloppdkkaaDoorTextsP
namespace Go.Proofs.YtgfaaeloppdkkaaDoor
open Go.RowKit Go.Shelf

/-- The text that is cut. -/
def qText (s : ByteArray) : ByteArray := (⟨#[34]⟩ ++ escB s.data.toList) ++ ⟨#[34]⟩
theorem qText_list (s : ByteArray) : (qText s).data.toList = 34 :: (escL s.data.toList ++ [34]) := by
  rw [qText, append_list, append_list]; rfl
theorem qText_size (s : ByteArray) (h : s.size ≤ 40) : (qText s).size ≤ 281474976710656 := by
  rw [show (qText s).size = (qText s).data.toList.length from (Array.length_toList ..).symm, qText_list]
  have h3 := escL_len s.data.toList
  have h2 : s.data.toList.length ≤ 40 := by rw [Array.length_toList]; exact h
  rw [List.length_cons, List.length_append]
  have h4 : ([34] : List UInt8).length = 1 := rfl
  omega

theorem cut_q_ok (s : ByteArray) (h : s.size ≤ 40) (hg : allB 32 126 s.data.toList = true) (h16 : s.size ≤ 16) (w : World) (hV : Vars w) :
    Calls Tryd.prog 10 #[.string (qText s)] w fun e W' => ∃ g cap, e = .returned (.tuple #[.slice (some ⟨g, 0, none⟩) 1 cap, .nilIface]) ∧ (W'.cell? ⟨g, 0, none⟩ = some (.int .i64 3) ∧ W'.cell? ⟨g, 1, none⟩ = some (.string s)) ∧ Below w.heap.size w W' := by
  have hc := cutL_esc s.data.toList
  rw [if_pos hg, if_pos (by rw [Array.length_toList]; exact h16)] at hc
  refine (cut_ok (qText s) w hV (qText_size s h) _ ((congrArg cutL (qText_list s)).trans hc) rfl (by simp)).mono ?_
  rintro e W' ⟨g, cap, rfl, ⟨_, _, hq⟩, hb⟩
  exact ⟨g, cap, rfl, ⟨unhide hq 0 _ rfl, by rw [unhide hq 1 _ rfl]⟩, hb⟩
theorem cut_q_large (s : ByteArray) (h : s.size ≤ 40) (hg : allB 32 126 s.data.toList = true) (h16 : ¬ s.size ≤ 16) (w : World) (hV : Vars w) :
    Calls Tryd.prog 10 #[.string (qText s)] w fun e W' => ∃ a cap, e = .returned (.tuple #[.slice a 0 cap, errV 12]) ∧ Below w.heap.size w W' := by
  have hc := cutL_esc s.data.toList
  rw [if_pos hg, if_neg (by rw [Array.length_toList]; exact h16)] at hc
  exact cut_err (qText s) w hV (qText_size s h) 12 (by rw [qText_list, hc]; rfl) (by decide)
theorem cut_q_bad (s : ByteArray) (h : s.size ≤ 40) (hg : allB 32 126 s.data.toList = false) (w : World) (hV : Vars w) :
    Calls Tryd.prog 10 #[.string (qText s)] w fun e W' => ∃ a cap, e = .returned (.tuple #[.slice a 0 cap, errV 21]) ∧ Below w.heap.size w W' := by
  have hc := cutL_esc s.data.toList
  rw [if_neg (by rw [hg]; decide)] at hc
  exact cut_err (qText s) w hV (qText_size s h) 21 (by rw [qText_list, hc]; rfl) (by decide)

set_option maxRecDepth 100000 in
set_option maxHeartbeats 4000000 in
theorem texts6_c (s : ByteArray) (w : World) (hV : Vars w) :
    Calls Tryd.prog 6 #[.string s] w fun e w' => e = .returned (.bool true) ∧ Below w.heap.size w w' := by
  have HI := hide (show ∀ w, Calls Tryd.prog 14 #[errV 12, errV 12] w fun e w' => e = .returned (.bool true) ∧ w' = w from fun w => errIs_c 12 12 w)
  have HI2 := hide (show ∀ w, Calls Tryd.prog 14 #[errV 21, errV 21] w fun e w' => e = .returned (.bool true) ∧ w' = w from fun w => errIs_c 21 21 w)
  rcases Nat.lt_or_ge 40 s.size with h40 | h40
  · have h40' : ¬ (s.size : Int) ≤ 40 := by omega
    go_enter Tryd.func6, Tryd.ntmps6
    go_wp2_with fail
    refine (known9_c _ hV).mono ?_
    rintro e w1 ⟨rfl, hb1⟩
    go_wp2_with fail
    go_ret
    exact ⟨rfl, hb1⟩
  have h40' : (s.size : Int) ≤ 40 := by omega
  have hsl := hide (show s.data.toList.length = s.size from Array.length_toList ..)
  go_enter Tryd.func6, Tryd.ntmps6
  go_wp2_with fail
  refine (known9_c _ hV).mono ?_
  rintro e w1 ⟨rfl, hb1⟩
  go_wp2_with fail
  go_loopw [3, 4, 5] (fun t g i wr => ∃ k : Nat, k ≤ s.size ∧ i = .int .i64 k ∧ t = .string (escB (s.data.toList.take k)) ∧ g = .bool (allB 32 126 (s.data.toList.take k)) ∧ wr = w1) (fun _ _ i _ => s.size - (intOf i).toNat)
  case atStart => exact ⟨0, Nat.zero_le _, rfl, rfl, rfl, rfl⟩
  case round =>
    obtain ⟨k, hk, rfl, rfl, rfl, rfl⟩ := hrel
    by_cases hlt : k < s.size
    · have hez := escB_size (s.data.toList.take k)
      rw [List.length_take, unhide hsl] at hez
      have hz2 : (escB (s.data.toList.take k)).size + 2 ≤ 281474976710656 := by omega
      have hez := hide hez
      have Hg := hide (show allB 32 126 (s.data.toList.take (k + 1)) = (allB 32 126 (s.data.toList.take k) && inB 32 126 s[k].toNat) by rw [take_snoc s k hlt, allB_snoc])
      have hx1 := hide (ext_one s k hlt)
      have hxs : (s.extract k (k + 1)).size = 1 := by rw [show (s.extract k (k + 1)).size = (s.extract k (k + 1)).data.toList.length from (Array.length_toList ..).symm, unhide hx1]; rfl
      by_cases hc : s[k].toNat = 34 ∨ s[k].toNat = 92
      · have HE := hide (escB_slash s k hlt hc)
        have hin := inB_esc hc
        have hcc : ((s[k].toNat : Int) == 34) = true ∨ (((s[k].toNat : Int) == 34) = false ∧ ((s[k].toNat : Int) == 92) = true) := by
          rcases hc with h | h
          · left; simp [h]
          · right; simp [h]
        have h32 : (32 : Int) ≤ s[k].toNat := by omega
        have h126 : (s[k].toNat : Int) ≤ 126 := by omega
        have Hn := hide (show allB 32 126 (s.data.toList.take (k + 1)) = allB 32 126 (s.data.toList.take k) by rw [unhide Hg, hin, Bool.and_true])
        generalize allB 32 126 (s.data.toList.take k) = g at Hn
        clear hc hin Hg
        rcases hcc with h34 | ⟨h34, h92⟩ <;> cases g
        all_goals
          go_wp2
          go_roundw
          case rel => exact ⟨k + 1, by omega, by go_num, by rw [← unhide HE], by rw [unhide Hn], trivial⟩
          case measure => simp [intOf]; omega
      · have HE := hide (escB_plain s k hlt hc)
        have h34 : ((s[k].toNat : Int) == 34) = false := by simp; omega
        have h92 : ((s[k].toNat : Int) == 92) = false := by simp; omega
        cases hin : inB 32 126 s[k].toNat
        · have Hn := hide (show allB 32 126 (s.data.toList.take (k + 1)) = false by rw [unhide Hg, hin, Bool.and_false])
          have hcc : (¬ (32 : Int) ≤ s[k].toNat) ∨ ((32 : Int) ≤ s[k].toNat ∧ decide ((s[k].toNat : Int) ≤ 126) = false) := by
            simp only [inB, Bool.and_eq_false_iff, decide_eq_false_iff_not] at hin ⊢; omega
          generalize allB 32 126 (s.data.toList.take k) = g
          clear hc hin Hg
          rcases hcc with h32 | ⟨h32, h126⟩ <;> cases g
          all_goals
            go_wp2
            go_roundw
            case rel => exact ⟨k + 1, by omega, by go_num, by rw [← unhide HE], by rw [unhide Hn], trivial⟩
            case measure => simp [intOf]; omega
        · have Hn := hide (show allB 32 126 (s.data.toList.take (k + 1)) = allB 32 126 (s.data.toList.take k) by rw [unhide Hg, hin, Bool.and_true])
          have h32 : (32 : Int) ≤ s[k].toNat := by simp only [inB, Bool.and_eq_true, decide_eq_true_eq] at hin; omega
          have h126 : (s[k].toNat : Int) ≤ 126 := by simp only [inB, Bool.and_eq_true, decide_eq_true_eq] at hin; omega
          generalize allB 32 126 (s.data.toList.take k) = g at Hn
          clear hc hin Hg
          cases g
          all_goals
            go_wp2
            go_roundw
            case rel => exact ⟨k + 1, by omega, by go_num, by rw [← unhide HE], by rw [unhide Hn], trivial⟩
            case measure => simp [intOf]; omega
    · obtain rfl : k = s.size := by omega
      have htk : s.data.toList.take s.size = s.data.toList := List.take_of_length_le (by rw [unhide hsl]; exact Nat.le_refl _)
      rw [htk]
      have hez := escB_size s.data.toList
      rw [unhide hsl] at hez
      have hz2 : (escB s.data.toList).size + 2 ≤ 281474976710656 := by omega
      have HQ := hide (show qText s = (⟨#[34]⟩ ++ escB s.data.toList) ++ ⟨#[34]⟩ from rfl)
      have hVb := hV.up hb1
      have hez := hide hez
      cases hg : allB 32 126 s.data.toList
      · have HC := hide (show ∀ w, Vars w → _ from fun w hV => cut_q_bad s h40 hg w hV)
        clear hg
        go_wp2_with fail
        rw [← unhide HQ]
        refine (unhide HC _ hVb).mono ?_
        rintro e w2 ⟨a4, c4, rfl, hb2⟩
        go_wp2_with fail
        refine (unhide HI2 _).mono ?_
        rintro e w3 ⟨rfl, rfl⟩
        go_wp2_with fail
        go_ret
        exact ⟨rfl, hb1.trans (hb2.mono hb1.size)⟩
      · by_cases h16 : s.size ≤ 16
        · have HC := hide (show ∀ w, Vars w → _ from fun w hV => cut_q_ok s h40 hg h16 w hV)
          have h16' : (s.size : Int) ≤ 16 := by omega
          clear hg
          go_wp2_with fail
          rw [← unhide HQ]
          refine (unhide HC _ hVb).mono ?_
          rintro e w2 ⟨g2, cap, rfl, ⟨hc0, hc1⟩, hb2⟩
          go_wp2_with fail
          go_ret
          exact ⟨rfl, hb1.trans (hb2.mono hb1.size)⟩
        · have HC := hide (show ∀ w, Vars w → _ from fun w hV => cut_q_large s h40 hg h16 w hV)
          have h16' : ¬ (s.size : Int) ≤ 16 := by omega
          clear hg
          go_wp2_with fail
          rw [← unhide HQ]
          refine (unhide HC _ hVb).mono ?_
          rintro e w2 ⟨a4, c4, rfl, hb2⟩
          go_wp2_with fail
          refine (unhide HI _).mono ?_
          rintro e w3 ⟨rfl, rfl⟩
          go_wp2_with fail
          go_ret
          exact ⟨rfl, hb1.trans (hb2.mono hb1.size)⟩

end Go.Proofs.YtgfaaeloppdkkaaDoor
