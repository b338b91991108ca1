/-
  What the document's word answers where neither a name nor a number nor a text begins; in whatever world; nothing that lay is turned.
-/
import Derived.Test.YtgfaaeloppdkkaaDoorDSignP
namespace Go.Proofs.YtgfaaeloppdkkaaDoor
open Go.RowKit Go.Shelf

theorem ext_two (s : ByteArray) (at_ : Nat) (h2 : at_ + 1 < s.size) : (s.extract at_ (at_ + 2)).toList = [s[at_], s[at_ + 1]] := by
  have hq : s.data.toList.length = s.size := Array.length_toList (xs := s.data)
  rw [ByteArray.toList_eq, ext_list, List.drop_take, Nat.add_sub_cancel_left, drop_cons _ at_ (by omega), drop_cons _ (at_ + 1) (by omega), at_data s at_ (by omega), at_data s (at_ + 1) h2]
  rfl

set_option maxRecDepth 100000 in
set_option maxHeartbeats 4000000 in
theorem word17_two (s : ByteArray) (at_ : Nat) (hat : at_ < s.size) (h2 : at_ + 1 < s.size) (h : (s[at_] = 33 ∧ s[at_ + 1] = 61) ∨ (s[at_] = 60 ∧ s[at_ + 1] = 61)) (w : World) (hs : s.size ≤ 281474976710656) :
    Calls Tryd.prog 17 #[.string s, .int .i64 at_] w fun e w' => e = .returned (encD (signW (s.data.toList.drop at_))) ∧ Below w.heap.size w w' := by
  obtain ⟨W0, hW0⟩ : ∃ W0, W0 = w.alloc (.cells #[.int .i64 0, .string ⟨#[]⟩, .int .i64 0, .int .i64 0] 32) := ⟨_, rfl⟩
  have b0 : Box W0 w.heap.size 32 w0 := by rw [hW0]; exact Box.new w 32 w0
  have bb0 : Below w.heap.size w W0 := by rw [hW0]; exact (Below.refl _ _).alloc (Nat.le_refl _) _
  have HW := hide hW0
  have HBB := hide bb0
  have B0 := hide b0
  clear hW0 bb0 b0
  have HDG : ∀ x w, Hid (Calls Tryd.prog 24 #[.int .u8 x] w fun e w' => e = .returned (.bool (inB 48 57 x)) ∧ w' = w) := fun x w => hide (digit24_c x w)
  obtain ⟨c0, c1, c2, c3, f0, f1, f2, f3⟩ := Box.four (unhide B0)
  have hq : s.data.toList.length = s.size := Array.length_toList (xs := s.data)
  have H := hide (show signW (s.data.toList.drop at_) = .word 5 [s[at_], s[at_ + 1]] 0 2 by
    rw [drop_cons _ at_ (by omega), drop_cons _ (at_ + 1) (by omega), at_data s at_ hat, at_data s (at_ + 1) h2]
    exact sign_two _ _ _ h)
  have hX := ext_two s at_ h2
  have HX := hide (show s.extract at_ (at_ + 2) = ⟨[s[at_], s[at_ + 1]].toArray⟩ from eq_of_list (by rw [← hX, ByteArray.toList_eq]))
  have hcc : (inB 48 57 s[at_].toNat = false ∧ ¬ ((97 : Int) ≤ s[at_].toNat) ∧ ¬ ((65 : Int) ≤ s[at_].toNat) ∧ ((s[at_].toNat : Int) == 45) = false ∧ ((s[at_].toNat : Int) == 34) = false) := by
    rcases h with ⟨h, _⟩ | ⟨h, _⟩ <;> rw [h] <;> decide
  have he : ((s.extract at_ (at_ + 2)).toList == [33, 61]) = true ∨ (((s.extract at_ (at_ + 2)).toList == [33, 61]) = false ∧ ((s.extract at_ (at_ + 2)).toList == [60, 61]) = true) := by
    rw [hX]
    rcases h with ⟨h, h'⟩ | ⟨h, h'⟩ <;> rw [h, h'] <;> decide
  obtain ⟨hin0, h97, h65, h45', h34'⟩ := hcc
  clear hX h hq
  rcases he with he | ⟨he, he2⟩
  all_goals
    go_enter Tryd.func17, Tryd.ntmps17
    go_wp2_with fail
    rw [← unhide HW]
    refine (unhide (HDG _ _)).mono ?_
    rintro e w2 ⟨rfl, rfl⟩
    rw [hin0]
    go_wp2_with fail
    rw [unhide HX]
    obtain ⟨q0, q1, q2, q3, _, _, _, _⟩ := ((unhide B0).put4 (.int .i64 5) (.string ⟨[s[at_], s[at_ + 1]].toArray⟩) (.int .i64 0) (.int .i64 0)).four
    refine bodyPost_ret (v := encD (.word 5 [s[at_], s[at_ + 1]] 0 2)) (by simp [results, Tryd.results17, go_sem, q0, q1, q2, q3, encD]) rfl ⟨by rw [unhide H], ?_⟩
    exact below4 (unhide HBB) (Nat.le_refl _) _ _ _ _

end Go.Proofs.YtgfaaeloppdkkaaDoor
