/-
  What the document's word answers where a number or a text begins; in whatever world; nothing that lay is turned.
-/
import Derived.Test.YtgfaaeloppdkkaaDoorDNumD
namespace Go.Proofs.YtgfaaeloppdkkaaDoor
open Go.RowKit Go.Shelf

theorem encD_form (r : Wd) : ∃ k t n len ev, encD r = .tuple #[.agg #[.int .i64 k, .string t, .int .i64 n, .int .i64 0], .int .i64 len, .int .i64 ev] := by
  cases r with
  | word k t n len => exact ⟨k, _, n, len, _, rfl⟩
  | bad e => exact ⟨0, _, 0, 0, _, rfl⟩

theorem isNum_at (s : ByteArray) (at_ : Nat) (hat : at_ < s.size) : isNumL (s.data.toList.drop at_) = if s[at_].toNat = 45 then (if h : at_ + 1 < s.size then inB 48 57 (s[at_ + 1]'h).toNat else false) else inB 48 57 s[at_].toNat := by
  have hq : s.data.toList.length = s.size := Array.length_toList (xs := s.data)
  rw [isNumL, head_drop s at_ hat]
  by_cases h : s[at_].toNat = 45
  · have h' : some s[at_] = some (45 : UInt8) := congrArg some (UInt8.toNat_inj.1 h)
    rw [if_pos h, if_pos h', List.tail_drop]
    by_cases h2 : at_ + 1 < s.size
    · rw [dif_pos h2, drop_cons _ (at_ + 1) (by rw [hq]; exact h2)]
      show inB 48 57 _ = _
      rw [at_data s (at_ + 1) h2]
    · rw [dif_neg h2, List.drop_eq_nil_of_le (by omega)]
  · have h' : ¬ some s[at_] = some (45 : UInt8) := fun e => h (by rw [Option.some.inj e]; rfl)
    rw [if_neg h, if_neg h', drop_cons _ at_ (by rw [hq]; exact hat)]
    show inB 48 57 _ = _
    rw [at_data s at_ hat]

set_option maxRecDepth 100000 in
set_option maxHeartbeats 4000000 in
theorem word17_num (s : ByteArray) (at_ : Nat) (hat : at_ < s.size) (hn : isNumL (s.data.toList.drop at_) = true) (w : World) (hs : s.size ≤ 281474976710656) :
    Calls Tryd.prog 17 #[.string s, .int .i64 at_] w fun e w' => e = .returned (encD (numW (s.data.toList.drop at_))) ∧ Below w.heap.size w w' := by
  obtain ⟨W0, hW0⟩ : ∃ W0, W0 = w.alloc (.cells #[.int .i64 0, .string ⟨#[]⟩, .int .i64 0, .int .i64 0] 32) := ⟨_, rfl⟩
  have b0 : Box W0 w.heap.size 32 w0 := by rw [hW0]; exact Box.new w 32 w0
  have bb0 : Below w.heap.size w W0 := by rw [hW0]; exact (Below.refl _ _).alloc (Nat.le_refl _) _
  have HW := hide hW0
  have HBB := hide bb0
  have B0 := hide b0
  clear hW0 bb0 b0
  have HN := hide (fun w => number25_c s at_ hat hn w hs)
  obtain ⟨ka, ta, na, la, ea, hf⟩ := encD_form (numW (s.data.toList.drop at_))
  have HF := hide hf
  have HDG : ∀ x w, Hid (Calls Tryd.prog 24 #[.int .u8 x] w fun e w' => e = .returned (.bool (inB 48 57 x)) ∧ w' = w) := fun x w => hide (digit24_c x w)
  rw [isNum_at s at_ hat] at hn
  have hcc : inB 48 57 s[at_].toNat = true ∨ (s[at_].toNat = 45 ∧ ∃ h : at_ + 1 < s.size, inB 48 57 (s[at_ + 1]'h).toNat = true) := by
    by_cases h : s[at_].toNat = 45
    · rw [if_pos h] at hn
      by_cases h2 : at_ + 1 < s.size
      · rw [dif_pos h2] at hn; exact .inr ⟨h, h2, hn⟩
      · rw [dif_neg h2] at hn; cases hn
    · rw [if_neg h] at hn; exact .inl hn
  clear hn hf
  have b1 : Hid (∀ w2, Below W0.heap.size W0 w2 → Box w2 w.heap.size 32 w0 ∧ Below w.heap.size w w2) := hide (fun w2 hb => ⟨(unhide B0).on hb (unhide B0).lt, (unhide HBB).trans (hb.mono (unhide HBB).size)⟩)
  rcases hcc with hin | ⟨h45, h2, hin⟩
  · have h97 : ¬ ((97 : Int) ≤ s[at_].toNat) := by simp only [inB, Bool.and_eq_true, decide_eq_true_eq] at hin; omega
    have h65 : ¬ ((65 : Int) ≤ s[at_].toNat) := by simp only [inB, Bool.and_eq_true, decide_eq_true_eq] at hin; omega
    go_enter Tryd.func17, Tryd.ntmps17
    go_wp2_with fail
    rw [← unhide HW]
    refine (unhide (HDG _ _)).mono ?_
    rintro e w2 ⟨rfl, rfl⟩
    rw [hin]
    go_wp2_with fail
    refine (unhide HN _).mono ?_
    rintro e w2 ⟨rfl, hb2⟩
    rw [unhide HF]
    obtain ⟨B4, hb4⟩ := unhide b1 _ hb2
    obtain ⟨c0, c1, c2, c3, f0, f1, f2, f3⟩ := Box.four B4
    go_wp2
    obtain ⟨q0, q1, q2, q3, _, _, _, _⟩ := (B4.put4 (.int .i64 ka) (.string ta) (.int .i64 na) (.int .i64 0)).four
    refine bodyPost_ret (v := .tuple #[.agg #[.int .i64 ka, .string ta, .int .i64 na, .int .i64 0], .int .i64 la, .int .i64 ea]) (by simp [results, Tryd.results17, go_sem, q0, q1, q2, q3]) rfl ⟨by rw [unhide HF], ?_⟩
    exact below4 hb4 (Nat.le_refl _) _ _ _ _
  · have h97 : ¬ ((97 : Int) ≤ s[at_].toNat) := by omega
    have h65 : ¬ ((65 : Int) ≤ s[at_].toNat) := by omega
    have hin0 : inB 48 57 s[at_].toNat = false := by rw [h45]; rfl
    have h45' : ((s[at_].toNat : Int) == 45) = true := by simp [h45]
    clear h45
    go_enter Tryd.func17, Tryd.ntmps17
    go_wp2_with fail
    rw [← unhide HW]
    refine (unhide (HDG _ _)).mono ?_
    rintro e w2 ⟨rfl, rfl⟩
    rw [hin0]
    go_wp2_with fail
    refine (unhide (HDG _ _)).mono ?_
    rintro e w2 ⟨rfl, rfl⟩
    rw [hin]
    go_wp2_with fail
    refine (unhide HN _).mono ?_
    rintro e w2 ⟨rfl, hb2⟩
    rw [unhide HF]
    obtain ⟨B4, hb4⟩ := unhide b1 _ hb2
    obtain ⟨c0, c1, c2, c3, f0, f1, f2, f3⟩ := Box.four B4
    go_wp2
    obtain ⟨q0, q1, q2, q3, _, _, _, _⟩ := (B4.put4 (.int .i64 ka) (.string ta) (.int .i64 na) (.int .i64 0)).four
    refine bodyPost_ret (v := .tuple #[.agg #[.int .i64 ka, .string ta, .int .i64 na, .int .i64 0], .int .i64 la, .int .i64 ea]) (by simp [results, Tryd.results17, go_sem, q0, q1, q2, q3]) rfl ⟨by rw [unhide HF], ?_⟩
    exact below4 hb4 (Nat.le_refl _) _ _ _ _

set_option maxRecDepth 100000 in
set_option maxHeartbeats 4000000 in
theorem word17_text (s : ByteArray) (at_ : Nat) (hat : at_ < s.size) (h34 : s[at_].toNat = 34) (w : World) (hs : s.size ≤ 281474976710656) :
    Calls Tryd.prog 17 #[.string s, .int .i64 at_] w fun e w' => e = .returned (encD (textW (s.data.toList.drop at_))) ∧ Below w.heap.size w w' := by
  obtain ⟨W0, hW0⟩ : ∃ W0, W0 = w.alloc (.cells #[.int .i64 0, .string ⟨#[]⟩, .int .i64 0, .int .i64 0] 32) := ⟨_, rfl⟩
  have b0 : Box W0 w.heap.size 32 w0 := by rw [hW0]; exact Box.new w 32 w0
  have bb0 : Below w.heap.size w W0 := by rw [hW0]; exact (Below.refl _ _).alloc (Nat.le_refl _) _
  have HW := hide hW0
  have HBB := hide bb0
  have B0 := hide b0
  clear hW0 bb0 b0
  have HN := hide (fun w => text26_c s at_ hat w hs)
  obtain ⟨ka, ta, na, la, ea, hf⟩ := encD_form (textW (s.data.toList.drop at_))
  have HF := hide hf
  have HDG : ∀ x w, Hid (Calls Tryd.prog 24 #[.int .u8 x] w fun e w' => e = .returned (.bool (inB 48 57 x)) ∧ w' = w) := fun x w => hide (digit24_c x w)
  clear hf
  have b1 : Hid (∀ w2, Below W0.heap.size W0 w2 → Box w2 w.heap.size 32 w0 ∧ Below w.heap.size w w2) := hide (fun w2 hb => ⟨(unhide B0).on hb (unhide B0).lt, (unhide HBB).trans (hb.mono (unhide HBB).size)⟩)
  have h97 : ¬ ((97 : Int) ≤ s[at_].toNat) := by omega
  have h65 : ¬ ((65 : Int) ≤ s[at_].toNat) := by omega
  have hin0 : inB 48 57 s[at_].toNat = false := by rw [h34]; rfl
  have h45' : ((s[at_].toNat : Int) == 45) = false := by simp [h34]
  have h34' : ((s[at_].toNat : Int) == 34) = true := by simp [h34]
  clear h34
  go_enter Tryd.func17, Tryd.ntmps17
  go_wp2_with fail
  rw [← unhide HW]
  refine (unhide (HDG _ _)).mono ?_
  rintro e w2 ⟨rfl, rfl⟩
  rw [hin0]
  go_wp2_with fail
  refine (unhide HN _).mono ?_
  rintro e w2 ⟨rfl, hb2⟩
  rw [unhide HF]
  obtain ⟨B4, hb4⟩ := unhide b1 _ hb2
  obtain ⟨c0, c1, c2, c3, f0, f1, f2, f3⟩ := Box.four B4
  go_wp2
  obtain ⟨q0, q1, q2, q3, _, _, _, _⟩ := (B4.put4 (.int .i64 ka) (.string ta) (.int .i64 na) (.int .i64 0)).four
  refine bodyPost_ret (v := .tuple #[.agg #[.int .i64 ka, .string ta, .int .i64 na, .int .i64 0], .int .i64 la, .int .i64 ea]) (by simp [results, Tryd.results17, go_sem, q0, q1, q2, q3]) rfl ⟨by rw [unhide HF], ?_⟩
  exact below4 hb4 (Nat.le_refl _) _ _ _ _

end Go.Proofs.YtgfaaeloppdkkaaDoor
