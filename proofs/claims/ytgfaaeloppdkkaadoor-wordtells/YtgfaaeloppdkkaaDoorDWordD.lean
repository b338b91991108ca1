/-
  What the document's word answers where a sign of one byte is asked for; in whatever world; nothing that lay is turned.
-/
import Derived.Test.YtgfaaeloppdkkaaDoorDWordC
namespace Go.Proofs.YtgfaaeloppdkkaaDoor
open Go.RowKit Go.Shelf

set_option maxRecDepth 100000 in
set_option maxHeartbeats 8000000 in
theorem word17_one (s : ByteArray) (at_ : Nat) (hat : at_ < s.size) (h1 : inB 97 122 s[at_].toNat = false) (h2 : inB 65 90 s[at_].toNat = false) (hc45 : ¬ s[at_].toNat = 45) (hd : inB 48 57 s[at_].toNat = false) (h4 : ¬ s[at_].toNat = 34) (hno : ∀ h : at_ + 1 < s.size, ¬ ((s[at_] = 33 ∧ s[at_ + 1] = 61) ∨ (s[at_] = 60 ∧ s[at_ + 1] = 61))) (w : World) (hs : s.size ≤ 281474976710656) :
    Calls Tryd.prog 17 #[.string s, .int .i64 at_] w fun e w' => e = .returned (encD (signW (s.data.toList.drop at_))) ∧ Below w.heap.size w w' := by
  obtain ⟨W0, hW0⟩ : ∃ W0, W0 = w.alloc (.cells #[.int .i64 0, .string ⟨#[]⟩, .int .i64 0, .int .i64 0] 32) := ⟨_, rfl⟩
  have b0 : Box W0 w.heap.size 32 w0 := by rw [hW0]; exact Box.new w 32 w0
  have bb0 : Below w.heap.size w W0 := by rw [hW0]; exact (Below.refl _ _).alloc (Nat.le_refl _) _
  have HW := hide hW0
  have HBB := hide bb0
  have B0 := hide b0
  clear hW0 bb0 b0
  have HDG : ∀ x w, Hid (Calls Tryd.prog 24 #[.int .u8 x] w fun e w' => e = .returned (.bool (inB 48 57 x)) ∧ w' = w) := fun x w => hide (digit24_c x w)
  obtain ⟨c0, c1, c2, c3, f0, f1, f2, f3⟩ := Box.four (unhide B0)
  have hq : s.data.toList.length = s.size := Array.length_toList (xs := s.data)
  have HS1 := hide (show s[at_] ∈ sign1 → signW (s.data.toList.drop at_) = .word 5 [s[at_]] 0 1 from fun h => by
    rw [drop_cons _ at_ (by omega), at_data s at_ hat]
    refine sign_one _ _ (fun b r' e => ?_) h
    have h2 : at_ + 1 < s.size := by
      apply Classical.byContradiction
      intro hn
      rw [List.drop_eq_nil_of_le (by omega)] at e; cases e
    rw [drop_cons _ (at_ + 1) (by omega), at_data s (at_ + 1) h2] at e
    cases e
    exact hno h2)
  have HS0 := hide (show s[at_] ∉ sign1 → signW (s.data.toList.drop at_) = .bad 21 from fun h => by
    rw [drop_cons _ at_ (by omega), at_data s at_ hat]
    exact sign_none _ _ h)
  have HX1 := hide (show s.extract at_ (at_ + 1) = ⟨[s[at_]].toArray⟩ from eq_of_list (by
    rw [ext_list, List.drop_take, Nat.add_sub_cancel_left, drop_cons _ at_ (by omega), at_data s at_ hat]; rfl))
  have hlt2 : (∃ h : (s.size : Int) ≤ (at_ : Int) + 1, True) ∨ (∃ h2 : at_ + 1 < s.size, ((s.extract at_ (at_ + 2)).toList == [33, 61]) = false ∧ ((s.extract at_ (at_ + 2)).toList == [60, 61]) = false) := by
    by_cases h2 : at_ + 1 < s.size
    · right
      have := hno h2
      refine ⟨h2, ?_, ?_⟩
      · rw [ext_two s at_ h2]
        apply beq_eq_false_iff_ne.2
        intro e
        injection e with e1 e2
        injection e2 with e3
        exact this (.inl ⟨e1, e3⟩)
      · rw [ext_two s at_ h2]
        apply beq_eq_false_iff_ne.2
        intro e
        injection e with e1 e2
        injection e2 with e3
        exact this (.inr ⟨e1, e3⟩)
    · left; exact ⟨by omega, trivial⟩
  clear hno hq
  have h34' : ((s[at_].toNat : Int) == 34) = false := by simp; omega
  have h45' : ((s[at_].toNat : Int) == 45) = false := by simp; omega
  have hcc : (¬ ((97 : Int) ≤ s[at_].toNat) ∧ ¬ ((65 : Int) ≤ s[at_].toNat)) ∨ (¬ ((97 : Int) ≤ s[at_].toNat) ∧ ((65 : Int) ≤ s[at_].toNat) ∧ ¬ ((s[at_].toNat : Int) ≤ 90)) ∨ (((97 : Int) ≤ s[at_].toNat) ∧ ¬ ((s[at_].toNat : Int) ≤ 122) ∧ ((65 : Int) ≤ s[at_].toNat) ∧ ¬ ((s[at_].toNat : Int) ≤ 90)) := by
    simp only [inB, Bool.and_eq_false_iff, decide_eq_false_iff_not] at h1 h2
    omega
  clear h1 h2 hc45 h4
  rcases hcc with ⟨g0, g1⟩ | ⟨g0, g1, g2⟩ | ⟨g0, g1, g2, g3⟩
  all_goals
    rcases hlt2 with ⟨hge, _⟩ | ⟨hlt, x1, x2⟩
    all_goals
      go_enter Tryd.func17, Tryd.ntmps17
      go_wp2_with fail
      rw [← unhide HW]
      refine (unhide (HDG _ _)).mono ?_
      rintro e w2 ⟨rfl, rfl⟩
      rw [hd]
      go_wp2_with fail
      go_loopw [10] (fun i wr => ∃ k : Nat, k ≤ 14 ∧ i = .int .i64 k ∧ Hid (∀ j (h : j < sign1.length), j < k → sign1[j] ≠ s[at_]) ∧ wr = w2) (fun i _ => 15 - (intOf i).toNat)
      case atStart => exact ⟨0, by omega, by go_num, hide (fun _ _ h => by omega), rfl⟩
      case round =>
        obtain ⟨k, hk, rfl, hall, rfl⟩ := hrel
        by_cases hk14 : k < 14
        · have hk' : (k : Int) < 14 := by omega
          by_cases hce : sign1[k]'(by simpa [sign1] using hk14) = s[at_]
          · have H := hide (unhide HS1 (hce ▸ List.getElem_mem _))
            have hce' : (((⟨#[40, 41, 91, 93, 58, 124, 44, 43, 33, 46, 45, 42, 61, 60]⟩ : ByteArray)[k]'hk14).toNat : Int) = s[at_].toNat := by rw [← hce]; rfl
            clear hce
            go_wp2
            rw [unhide HX1]
            obtain ⟨q0, q1, q2, q3, _, _, _, _⟩ := ((unhide B0).put4 (.int .i64 5) (.string ⟨[s[at_]].toArray⟩) (.int .i64 0) (.int .i64 0)).four
            refine bodyPost_ret (v := encD (.word 5 [s[at_]] 0 1)) (by simp [results, Tryd.results17, go_sem, q0, q1, q2, q3, encD]) rfl ⟨by rw [unhide H], ?_⟩
            exact below4 (unhide HBB) (Nat.le_refl _) _ _ _ _
          · have hce' : ((((⟨#[40, 41, 91, 93, 58, 124, 44, 43, 33, 46, 45, 42, 61, 60]⟩ : ByteArray)[k]'hk14).toNat : Int) == s[at_].toNat) = false := by
              apply beq_eq_false_iff_ne.2
              intro e
              exact hce (UInt8.toNat_inj.1 (Int.ofNat_inj.1 e))
            have HA := hide (show ∀ j (h : j < sign1.length), j < k + 1 → sign1[j] ≠ s[at_] from fun j h hj => by
              by_cases e : j = k
              · subst e; exact hce
              · exact unhide hall j h (by omega))
            clear hce
            go_wp2
            go_roundw
            case rel => exact ⟨k + 1, by omega, by go_num, HA, trivial⟩
            case measure => simp [intOf]; omega
        · have H := hide (unhide HS0 (fun hm => by
            obtain ⟨j, hj, he⟩ := List.mem_iff_getElem.1 hm
            exact unhide hall j hj (by simp only [sign1, List.length_cons, List.length_nil] at hj; omega) he))
          have hk' : (14 : Int) ≤ k := by omega
          go_wp2
          obtain ⟨q0, q1, q2, q3, _, _, _, _⟩ := ((unhide B0).put4 (.int .i64 0) (.string ⟨#[]⟩) (.int .i64 0) (.int .i64 0)).four
          refine bodyPost_ret (v := encD (.bad 21)) (by simp [results, Tryd.results17, go_sem, q0, q1, q2, q3, encD]) rfl ⟨by rw [unhide H], ?_⟩
          exact below4 (unhide HBB) (Nat.le_refl _) _ _ _ _

end Go.Proofs.YtgfaaeloppdkkaaDoor
