/-
  What text of package word tells: for every text, in whatever world in which the package variables stand; nothing that lay is turned.
-/
import Derived.Test.YtmhpakhnclkenaaGreatDoorWBare
namespace Go.Proofs.YtmhpakhnclkenaaGreatDoor
open Go.RowKit Go.Shelf

theorem isText_bare (t : List UInt8) (ht : ∀ c ∈ t, inB 32 126 c.toNat = true) : isB 2 0 ⟨(t.take 17).toArray⟩ = decide (t.length ≤ 16) := by
  have hs : (ByteArray.mk (t.take 17).toArray).size = (t.take 17).length := List.size_toArray ..
  have ha : allB 32 126 (t.take 17) = true := by
    simp only [allB, List.all_eq_true]
    exact fun c hc => ht c (List.mem_of_mem_take hc)
  simp only [isB, isTextB, hs, ha, List.length_take]
  simp
  omega

set_option maxRecDepth 100000 in
set_option maxHeartbeats 2000000 in
theorem text36_c (s : ByteArray) (w : World) (hV : Vars w) (hs : s.size ≤ 281474976710656) :
    Calls Tryz.prog 123 #[.string s] w fun e w' => e = .returned (encR (textW s.data.toList)) ∧ Below w.heap.size w w' := by
  have hsl : s.data.toList.length = s.size := Array.length_toList ..
  have hz := hV.size
  obtain ⟨W0, hW0⟩ : ∃ W0, W0 = w.alloc (.cells #[.int .i64 0, .string ⟨#[]⟩, .int .i64 0, .int .i64 0] 74) := ⟨_, rfl⟩
  have b0 : Box W0 w.heap.size 74 w0 := by rw [hW0]; exact Box.new w 74 w0
  have bb0 : Below w.heap.size w W0 := by rw [hW0]; exact (Below.refl _ _).alloc (Nat.le_refl _) _
  have sz0 : W0.heap.size = w.heap.size + 1 := by rw [hW0]; simp
  have hV0 : Vars W0 := hV.on bb0 hz
  have HW := hide hW0
  clear hW0
  have hms : s.size ≤ maxLen := by unfold maxLen; omega
  rcases he : endL (s.data.toList.drop 1) with _ | n
  · have H := hide (show textW s.data.toList = .bad 21 by rw [textW, he])
    have hT := hide (show tlen s.data.toList = 0 by rw [tlen, he])
    clear he
    have HB := hide b0
    have HBB := hide bb0
    clear b0
    go_enter Tryz.func123, Tryz.ntmps123
    go_wp2_with (rw [← unhide HW]; go_at_call 144; refine (textLen45_c _ _ hV0 hs).mono ?_; rintro e w2 ⟨rfl, hb2⟩; rw [unhide hT]; have B4 := (unhide HB).on hb2 (by omega); obtain ⟨c0, c1, c2, c3, f0, f1, f2, f3⟩ := Box.four8 B4)
    obtain ⟨q0, q1, q2, q3, _, _, _, _⟩ := (B4.put4 (.int .i64 0) (.string ⟨#[]⟩) (.int .i64 0) (.int .i64 0)).four8
    refine bodyPost_ret (v := encR (.bad 21)) (by simp [results, Tryz.results123, go_sem, q0, q1, q2, q3, encR]) rfl ⟨by rw [unhide H], ?_⟩
    exact below4 ((unhide HBB).trans (hb2.mono (by omega))) (Nat.le_refl _) _ _ _ _
  · obtain ⟨hn1, hn2⟩ := endL_bounds _ _ he
    have hw := endL_well _ _ he
    have hnl : n + 1 ≤ s.size := by simp at hn2; omega
    have hT := hide (show tlen s.data.toList = n + 1 by rw [tlen, he])
    obtain ⟨t, ht⟩ : ∃ t, t = bareL ((s.data.toList.drop 1).take (n - 1)) := ⟨_, rfl⟩
    have hseen : ∀ c ∈ t, inB 32 126 c.toNat = true := by rw [ht]; exact bareL_seen _ hw
    have hX : (s.extract 1 n).data.toList = (s.data.toList.drop 1).take (n - 1) := by rw [ext_list, List.drop_take]
    have hXs : (s.extract 1 n).size ≤ 281474976710656 := by
      show (s.extract 1 n).data.size ≤ _
      rw [← Array.length_toList, hX]; simp; omega
    have hbare := hide (show ∀ W, Calls Tryz.prog 145 #[.string (s.extract 1 n)] W fun e w' => e = .returned (.string ⟨(t.take 17).toArray⟩) ∧ Below W.heap.size W w' from fun W => by
      have := bare46_c (s.extract 1 n) W hXs (by rw [hX]; exact hw)
      rwa [hX, ← ht] at this)
    have hti := isText_bare t hseen
    have hts : (ByteArray.mk (t.take 17).toArray).size ≤ maxLen := by rw [show (ByteArray.mk (t.take 17).toArray).size = (t.take 17).length from List.size_toArray ..]; unfold maxLen; simp; omega
    have hn1' : (n : Int) + 1 - 1 = n := by omega
    have hne : ((n : Int) + 1 == 0) = false := by simp; omega
    have h1n : 1 ≤ n := hn1
    have hns : n ≤ s.size := by omega
    by_cases hlen : t.length ≤ 16
    · have H := hide (show textW s.data.toList = .word 3 t 0 (n + 1) by rw [textW, he]; simp only; rw [← ht, if_pos hlen])
      have Ht17 := hide (show t.take 17 = t from List.take_of_length_le (by omega))
      rw [decide_eq_true hlen] at hti
      have HTI := hide hti
      have HB := hide b0
      have HBB := hide bb0
      clear b0 hti ht he hw hn2 hX hlen
      go_enter Tryz.func123, Tryz.ntmps123
      go_wp2_with (first
        | (rw [← unhide HW]; go_at_call 144; refine (textLen45_c _ _ hV0 hs).mono ?_; rintro e w2 ⟨rfl, hb2⟩; rw [unhide hT])
        | (go_at_call 145; refine (unhide hbare _).mono ?_; rintro e w3 ⟨rfl, hb3⟩)
        | (go_at_call 72; refine (is36 2 0 _ _ hts).mono ?_; rintro e w4 ⟨rfl, hb4⟩; rw [unhide HTI]
           have B4 := (((unhide HB).on hb2 (by omega)).on hb3 (by have := hb2.size; omega)).on hb4 (by have := hb2.size; have := hb3.size; omega)
           obtain ⟨c0, c1, c2, c3, f0, f1, f2, f3⟩ := Box.four8 B4))
      obtain ⟨q0, q1, q2, q3, _, _, _, _⟩ := (B4.put4 (.int .i64 3) (.string ⟨(t.take 17).toArray⟩) (.int .i64 0) (.int .i64 0)).four8
      refine bodyPost_ret (v := encR (.word 3 (t.take 17) 0 (n + 1))) (by simp [results, Tryz.results123, go_sem, q0, q1, q2, q3, encR]) rfl ⟨by rw [unhide H, unhide Ht17], ?_⟩
      exact below4 ((((unhide HBB).trans (hb2.mono (by omega))).trans (hb3.mono (by have := hb2.size; omega))).trans (hb4.mono (by have := hb2.size; have := hb3.size; omega))) (Nat.le_refl _) _ _ _ _
    · have H := hide (show textW s.data.toList = .bad 12 by rw [textW, he]; simp only; rw [← ht, if_neg hlen])
      rw [decide_eq_false hlen] at hti
      have HTI := hide hti
      have HB := hide b0
      have HBB := hide bb0
      clear b0 hti ht he hw hn2 hX hlen
      go_enter Tryz.func123, Tryz.ntmps123
      go_wp2_with (first
        | (rw [← unhide HW]; go_at_call 144; refine (textLen45_c _ _ hV0 hs).mono ?_; rintro e w2 ⟨rfl, hb2⟩; rw [unhide hT])
        | (go_at_call 145; refine (unhide hbare _).mono ?_; rintro e w3 ⟨rfl, hb3⟩)
        | (go_at_call 72; refine (is36 2 0 _ _ hts).mono ?_; rintro e w4 ⟨rfl, hb4⟩; rw [unhide HTI]
           have B4 := (((unhide HB).on hb2 (by omega)).on hb3 (by have := hb2.size; omega)).on hb4 (by have := hb2.size; have := hb3.size; omega)
           obtain ⟨c0, c1, c2, c3, f0, f1, f2, f3⟩ := Box.four8 B4))
      obtain ⟨q0, q1, q2, q3, _, _, _, _⟩ := (B4.put4 (.int .i64 0) (.string ⟨#[]⟩) (.int .i64 0) (.int .i64 0)).four8
      refine bodyPost_ret (v := encR (.bad 12)) (by simp [results, Tryz.results123, go_sem, q0, q1, q2, q3, encR]) rfl ⟨by rw [unhide H], ?_⟩
      exact below4 ((((unhide HBB).trans (hb2.mono (by omega))).trans (hb3.mono (by have := hb2.size; omega))).trans (hb4.mono (by have := hb2.size; have := hb3.size; omega))) (Nat.le_refl _) _ _ _ _

end Go.Proofs.YtmhpakhnclkenaaGreatDoor
