/-
  What bare of package word tells: for every text in which quotes and backslashes stand behind backslashes, in whatever world; nothing that lay is turned.
-/
import Derived.Test.YtmhpakhnclkenaaGreatDoorWLen
import Derived.Test.YtmhpakhnclkenaaGreatDoorBuildB
namespace Go.Proofs.YtmhpakhnclkenaaGreatDoor
open Go.RowKit Go.Shelf

theorem bare_nil (l : List UInt8) (i : Nat) (h : l.length ≤ i) : bareL (l.drop i) = [] := by simp [List.drop_eq_nil_of_le h, bareL]
theorem well_slash (l : List UInt8) (i : Nat) (h : i < l.length) (hc : l[i].toNat = 92) (hw : wellB (l.drop i) = true) :
    ∃ h2 : i + 1 < l.length, wellB (l.drop (i + 2)) = true ∧ bareL (l.drop i) = l[i + 1] :: bareL (l.drop (i + 2)) := by
  rw [drop_cons l i h] at hw ⊢
  by_cases h2 : i + 1 < l.length
  · refine ⟨h2, ?_⟩
    rw [drop_cons l (i + 1) h2] at hw ⊢
    simp only [wellB, hc, if_true, Nat.reduceEqDiff, if_false, Bool.and_eq_true] at hw
    exact ⟨hw.2, by simp [bareL, hc]⟩
  · rw [List.drop_eq_nil_of_le (by omega)] at hw
    simp [wellB, hc] at hw
theorem well_plain (l : List UInt8) (i : Nat) (h : i < l.length) (hc : ¬ l[i].toNat = 92) (hw : wellB (l.drop i) = true) :
    wellB (l.drop (i + 1)) = true ∧ bareL (l.drop i) = l[i] :: bareL (l.drop (i + 1)) := by
  rw [drop_cons l i h] at hw ⊢
  rw [wellB.eq_def] at hw
  simp only [hc, if_false] at hw
  refine ⟨?_, by rw [bareL.eq_def]; simp [hc]⟩
  split at hw
  · cases hw
  · exact (Bool.and_eq_true_iff.1 hw).2

theorem byteCells_snoc (o : List UInt8) (c : UInt8) : Lib.byteCells o ++ [Value.int .u8 c.toNat] = Lib.byteCells (o ++ [c]) := by simp [Lib.byteCells]

set_option maxRecDepth 100000 in
set_option maxHeartbeats 2000000 in
theorem bare46_c (s : ByteArray) (w : World) (hs : s.size ≤ 281474976710656) (hw : wellB s.data.toList = true) :
    Calls Tryz.prog 145 #[.string s] w fun e w' => e = .returned (.string ⟨((bareL s.data.toList).take 17).toArray⟩) ∧ Below w.heap.size w w' := by
  have hsl := hide (show s.data.toList.length = s.size from Array.length_toList ..)
  go_enter Tryz.func145, Tryz.ntmps145
  go_wp2
  go_loopw [4] (fun i wr => ∃ (k : Nat) (o : List UInt8), k ≤ s.size ∧ o.length ≤ 17 ∧ i = .int .i64 k ∧ Hid (wellB (s.data.toList.drop k) = true ∧ bareL s.data.toList = o ++ bareL (s.data.toList.drop k)) ∧ Lib.IsBuilderF 183 5 w.heap.size w.heap.size (Lib.byteCells o) wr ∧ Below w.heap.size w wr) (fun i _ => s.size + 2 - (intOf i).toNat)
  case atStart => exact ⟨0, [], Nat.zero_le _, by decide, rfl, hide ⟨hw, rfl⟩, Lib.IsBuilderF.of (Lib.fresh_isBuilder 183 5 w), (Below.refl _ _).alloc (Nat.le_refl _) _⟩
  case round =>
    obtain ⟨k, o, hk, ho, rfl, hn, hB, hb⟩ := hrel
    have hlen : (Lib.byteCells o).length = o.length := by simp [Lib.byteCells]
    have hbw := hb.size
    by_cases hlt : k < s.size
    · have hl : k < s.data.toList.length := by rw [unhide hsl]; exact hlt
      have hat := hide (at_data s k hlt)
      by_cases h16 : o.length ≤ 16
      · have h16' : (o.length : Int) ≤ 16 := by omega
        by_cases h92 : s[k].toNat = 92
        · have h92' : ((s[k].toNat : Int) == 92) = true := by simp [h92]
          obtain ⟨h2, hw2, hb2⟩ := well_slash _ _ hl (by rw [unhide hat]; exact h92) (unhide hn).1
          have h2' : k + 1 < s.size := by rw [unhide hsl] at h2; exact h2
          have hat2 := at_data s (k + 1) h2'
          have H := hide (show wellB (s.data.toList.drop (k + 2)) = true ∧ bareL s.data.toList = (o ++ [s[k + 1]]) ++ bareL (s.data.toList.drop (k + 2)) from ⟨hw2, by rw [(unhide hn).2, hb2, hat2]; simp⟩)
          clear hw2 hb2 hat2 h92
          go_wp2_with (first
            | (go_at_call 164; refine (Tryz.Builder_Len_f _ _ _ _ hB).mono ?_; rintro e w2 ⟨rfl, rfl⟩; rw [hlen])
            | (go_at_call 165; refine (writeByte_c _ _ _ _ _ hB (by rw [hlen]; omega) hbw).mono ?_; rintro e w3 ⟨rfl, hB3, hb3⟩))
          go_roundw
          case rel => exact ⟨k + 2, o ++ [s[k + 1]], by omega, by simp; omega, by go_num, H, by rw [← byteCells_snoc]; exact hB3, hb.trans hb3⟩
          case measure => simp [intOf]; omega
        · have h92' : ((s[k].toNat : Int) == 92) = false := by simp; omega
          obtain ⟨hw2, hb2⟩ := well_plain _ _ hl (by rw [unhide hat]; exact h92) (unhide hn).1
          have H := hide (show wellB (s.data.toList.drop (k + 1)) = true ∧ bareL s.data.toList = (o ++ [s[k]]) ++ bareL (s.data.toList.drop (k + 1)) from ⟨hw2, by rw [(unhide hn).2, hb2, unhide hat]; simp⟩)
          clear hw2 hb2 h92
          go_wp2_with (first
            | (go_at_call 164; refine (Tryz.Builder_Len_f _ _ _ _ hB).mono ?_; rintro e w2 ⟨rfl, rfl⟩; rw [hlen])
            | (go_at_call 165; refine (writeByte_c _ _ _ _ _ hB (by rw [hlen]; omega) hbw).mono ?_; rintro e w3 ⟨rfl, hB3, hb3⟩))
          go_roundw
          case rel => exact ⟨k + 1, o ++ [s[k]], by omega, by simp; omega, by go_num, H, by rw [← byteCells_snoc]; exact hB3, hb.trans hb3⟩
          case measure => simp [intOf]; omega
      · have h16' : ¬ (o.length : Int) ≤ 16 := by omega
        have H := hide (show (bareL s.data.toList).take 17 = o by rw [(unhide hn).2, List.take_append_of_le_length (by omega), List.take_of_length_le (by omega)])
        go_wp2_with (first
          | (go_at_call 164; refine (Tryz.Builder_Len_f _ _ _ _ hB).mono ?_; rintro e w2 ⟨rfl, rfl⟩; rw [hlen])
          | (go_at_call 109; refine (Tryz.Builder_String_any_k _ _ _ _ hB hbw).mono ?_; rintro e w3 ⟨rfl, hB3, hb3, _⟩))
        go_ret
        exact ⟨by rw [unhide H]; rfl, hb.trans hb3⟩
    · have H := hide (show (bareL s.data.toList).take 17 = o by rw [(unhide hn).2, bare_nil _ _ (by rw [unhide hsl]; omega), List.append_nil, List.take_of_length_le (by omega)])
      go_wp2_with (go_at_call 109; refine (Tryz.Builder_String_any_k _ _ _ _ hB hbw).mono ?_; rintro e w3 ⟨rfl, hB3, hb3, _⟩)
      go_ret
      exact ⟨by rw [unhide H]; rfl, hb.trans hb3⟩

end Go.Proofs.YtmhpakhnclkenaaGreatDoor
