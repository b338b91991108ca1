/-
  What the document's word answers where a name begins, small or great; in whatever world; nothing that lay is turned.
-/
import Derived.Test.YtgfaaeloppdkkaaDoorDNumD
namespace Go.Proofs.YtgfaaeloppdkkaaDoor
open Go.RowKit Go.Shelf

set_option maxRecDepth 100000 in
set_option maxHeartbeats 4000000 in
theorem word17_name (s : ByteArray) (at_ N : Nat) (T : ByteArray) (hat : at_ < s.size) (hd : Led s at_ N 97 122) (hx : s.extract at_ (at_ + N) = T) (h1 : 1 ≤ N) (R : Wd) (hr : R = if N ≤ 8 then .word 1 T.data.toList 0 N else .bad 12) (w : World) (hs : s.size ≤ 281474976710656) :
    Calls Tryd.prog 17 #[.string s, .int .i64 at_] w fun e w' => e = .returned (encD R) ∧ Below w.heap.size w w' := by
  obtain ⟨W0, hW0⟩ : ∃ W0, W0 = w.alloc (.cells #[.int .i64 0, .string ⟨#[]⟩, .int .i64 0, .int .i64 0] 32) := ⟨_, rfl⟩
  have b0 : Box W0 w.heap.size 32 w0 := by rw [hW0]; exact Box.new w 32 w0
  have bb0 : Below w.heap.size w W0 := by rw [hW0]; exact (Below.refl _ _).alloc (Nat.le_refl _) _
  have HW := hide hW0
  have HBB := hide bb0
  have B0 := hide b0
  clear hW0 bb0 b0
  obtain ⟨hb0, l0, l1⟩ := hd.at_ 0 (by omega)
  simp only [Nat.add_zero] at l0 l1
  have HD := hide hd
  have HX := hide hx
  have HR := hide hr
  clear hd hr hx
  go_enter Tryd.func17, Tryd.ntmps17
  go_wp2
  rw [← unhide HW]
  go_loopw [8] (fun n wr => ∃ k : Nat, 1 ≤ k ∧ k ≤ N ∧ n = .int .i64 k ∧ wr = W0) (fun n _ => s.size + 2 - (intOf n).toNat)
  case atStart => exact ⟨1, by omega, h1, by go_num, rfl⟩
  case round =>
    obtain ⟨k, hk1, hk, rfl, rfl⟩ := hrel
    obtain ⟨c0, c1, c2, c3, f0, f1, f2, f3⟩ := Box.four (unhide B0)
    have hle := (unhide HD).le
    by_cases hkn : k < N
    · obtain ⟨hlt, g0, g1⟩ := (unhide HD).at_ k hkn
      go_wp2
      go_roundw
      case rel => exact ⟨k + 1, by omega, by omega, by go_num, trivial⟩
      case measure => simp [intOf]; omega
    · obtain rfl : k = N := by omega
      have hge : s.size ≤ at_ + k ∨ ∃ hlt : at_ + k < s.size, ((s[at_ + k].toNat : Int) < 97 ∨ ((97 : Int) ≤ s[at_ + k].toNat ∧ (122 : Int) < s[at_ + k].toNat)) := by
        by_cases hlt : at_ + k < s.size
        · exact .inr ⟨hlt, (unhide HD).out hlt⟩
        · exact .inl (by omega)
      by_cases h8 : k ≤ 8
      · have H := hide (show R = .word 1 T.data.toList 0 k by rw [unhide HR, if_pos h8])
        rcases hge with hge | ⟨hlt, g | ⟨g, g2⟩⟩
        all_goals
          go_wp2
          rw [unhide HX]
          obtain ⟨q0, q1, q2, q3, _, _, _, _⟩ := ((unhide B0).put4 (.int .i64 1) (.string T) (.int .i64 0) (.int .i64 0)).four
          refine bodyPost_ret (v := encD (.word 1 T.data.toList 0 k)) (by simp [results, Tryd.results17, go_sem, q0, q1, q2, q3, encD]) rfl ⟨by rw [unhide H], ?_⟩
          exact below4 (unhide HBB) (Nat.le_refl _) _ _ _ _
      · have H := hide (show R = .bad 12 by rw [unhide HR, if_neg h8])
        rcases hge with hge | ⟨hlt, g | ⟨g, g2⟩⟩
        all_goals
          go_wp2
          obtain ⟨q0, q1, q2, q3, _, _, _, _⟩ := ((unhide B0).put4 (.int .i64 0) (.string ⟨#[]⟩) (.int .i64 0) (.int .i64 0)).four
          refine bodyPost_ret (v := encD (.bad 12)) (by simp [results, Tryd.results17, go_sem, q0, q1, q2, q3, encD]) rfl ⟨by rw [unhide H], ?_⟩
          exact below4 (unhide HBB) (Nat.le_refl _) _ _ _ _

set_option maxRecDepth 100000 in
set_option maxHeartbeats 4000000 in
theorem word17_great (s : ByteArray) (at_ N : Nat) (T : ByteArray) (hat : at_ < s.size) (hd : Led s at_ N 65 90) (hx : s.extract at_ (at_ + N) = T) (h1 : 1 ≤ N) (R : Wd) (hr : R = if N ≤ 8 then .word 4 T.data.toList 0 N else .bad 12) (w : World) (hs : s.size ≤ 281474976710656) :
    Calls Tryd.prog 17 #[.string s, .int .i64 at_] w fun e w' => e = .returned (encD R) ∧ Below w.heap.size w w' := by
  obtain ⟨W0, hW0⟩ : ∃ W0, W0 = w.alloc (.cells #[.int .i64 0, .string ⟨#[]⟩, .int .i64 0, .int .i64 0] 32) := ⟨_, rfl⟩
  have b0 : Box W0 w.heap.size 32 w0 := by rw [hW0]; exact Box.new w 32 w0
  have bb0 : Below w.heap.size w W0 := by rw [hW0]; exact (Below.refl _ _).alloc (Nat.le_refl _) _
  have HW := hide hW0
  have HBB := hide bb0
  have B0 := hide b0
  clear hW0 bb0 b0
  obtain ⟨hb0, l0, l1⟩ := hd.at_ 0 (by omega)
  simp only [Nat.add_zero] at l0 l1
  have HD := hide hd
  have HX := hide hx
  have HR := hide hr
  clear hd hr hx
  have l97 : ¬ ((97 : Int) ≤ s[at_].toNat) := by omega
  go_enter Tryd.func17, Tryd.ntmps17
  go_wp2
  rw [← unhide HW]
  go_loopw [8] (fun n wr => ∃ k : Nat, 1 ≤ k ∧ k ≤ N ∧ n = .int .i64 k ∧ wr = W0) (fun n _ => s.size + 2 - (intOf n).toNat)
  case atStart => exact ⟨1, by omega, h1, by go_num, rfl⟩
  case round =>
    obtain ⟨k, hk1, hk, rfl, rfl⟩ := hrel
    obtain ⟨c0, c1, c2, c3, f0, f1, f2, f3⟩ := Box.four (unhide B0)
    have hle := (unhide HD).le
    by_cases hkn : k < N
    · obtain ⟨hlt, g0, g1⟩ := (unhide HD).at_ k hkn
      go_wp2
      go_roundw
      case rel => exact ⟨k + 1, by omega, by omega, by go_num, trivial⟩
      case measure => simp [intOf]; omega
    · obtain rfl : k = N := by omega
      have hge : s.size ≤ at_ + k ∨ ∃ hlt : at_ + k < s.size, ((s[at_ + k].toNat : Int) < 65 ∨ ((65 : Int) ≤ s[at_ + k].toNat ∧ (90 : Int) < s[at_ + k].toNat)) := by
        by_cases hlt : at_ + k < s.size
        · exact .inr ⟨hlt, (unhide HD).out hlt⟩
        · exact .inl (by omega)
      by_cases h8 : k ≤ 8
      · have H := hide (show R = .word 4 T.data.toList 0 k by rw [unhide HR, if_pos h8])
        rcases hge with hge | ⟨hlt, g | ⟨g, g2⟩⟩
        all_goals
          go_wp2
          rw [unhide HX]
          obtain ⟨q0, q1, q2, q3, _, _, _, _⟩ := ((unhide B0).put4 (.int .i64 4) (.string T) (.int .i64 0) (.int .i64 0)).four
          refine bodyPost_ret (v := encD (.word 4 T.data.toList 0 k)) (by simp [results, Tryd.results17, go_sem, q0, q1, q2, q3, encD]) rfl ⟨by rw [unhide H], ?_⟩
          exact below4 (unhide HBB) (Nat.le_refl _) _ _ _ _
      · have H := hide (show R = .bad 12 by rw [unhide HR, if_neg h8])
        rcases hge with hge | ⟨hlt, g | ⟨g, g2⟩⟩
        all_goals
          go_wp2
          obtain ⟨q0, q1, q2, q3, _, _, _, _⟩ := ((unhide B0).put4 (.int .i64 0) (.string ⟨#[]⟩) (.int .i64 0) (.int .i64 0)).four
          refine bodyPost_ret (v := encD (.bad 12)) (by simp [results, Tryd.results17, go_sem, q0, q1, q2, q3, encD]) rfl ⟨by rw [unhide H], ?_⟩
          exact below4 (unhide HBB) (Nat.le_refl _) _ _ _ _

end Go.Proofs.YtgfaaeloppdkkaaDoor
