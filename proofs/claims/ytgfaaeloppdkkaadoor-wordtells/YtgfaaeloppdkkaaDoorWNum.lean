/-
  What number of package word tells: for every text that begins with a number, in whatever world in which the package variables stand; nothing that lay is turned.
-/
import Derived.Test.YtgfaaeloppdkkaaDoorWName
import Derived.Test.YtgfaaeloppdkkaaDoorReadsZ
namespace Go.Proofs.YtgfaaeloppdkkaaDoor
open Go.RowKit Go.Shelf

theorem parseM_digits (M : Nat) : ∀ (l : List UInt8) (acc : Nat), allB 48 57 l = true → Lib.parseUintM M acc l ≠ .syntax
  | [], _, _ => by simp [Lib.parseUintM]
  | c :: r, acc, h => by
    simp only [allB, List.all_cons, Bool.and_eq_true] at h
    have hc : 48 ≤ c.toNat ∧ c.toNat ≤ 57 := by have := h.1; simp [inB] at this; omega
    rw [Lib.parseUintM, if_pos hc]
    split
    · simp
    · split
      · simp
      · exact parseM_digits M r _ h.2
theorem leadL_all (lo hi : Int) (l : List UInt8) : allB lo hi (leadL lo hi l) = true := List.all_takeWhile
theorem num_take (l : List UInt8) : l.take (numLen l) = (if l.head? = some 45 then [45] else []) ++ leadL 48 57 (l.drop (minusL l)) := by
  unfold numLen minusL
  cases l with
  | nil => rfl
  | cons c r =>
    by_cases h : c = 45
    · subst h
      simp only [List.head?_cons, if_true, List.drop_succ_cons, List.drop_zero, Nat.add_comm 1, List.take_succ_cons, List.cons_append, List.nil_append]
      rw [← leadL_take]
    · have h' : ¬ (c :: r).head? = some 45 := by simpa using h
      simp only [h', if_false, List.drop_zero, Nat.zero_add, List.nil_append]
      rw [← leadL_take]
theorem num_digits (l : List UInt8) (h : isNumL l = true) : 1 ≤ (leadL 48 57 (l.drop (minusL l))).length := by
  unfold isNumL at h
  unfold minusL
  cases l with
  | nil => simp at h
  | cons c r =>
    by_cases hc : c = 45
    · subst hc
      simp only [List.head?_cons, if_true, List.tail_cons] at h
      simp only [List.head?_cons, if_true, List.drop_succ_cons, List.drop_zero]
      cases r with
      | nil => simp at h
      | cons d r => exact leadL_pos h
    · have h' : ¬ (c :: r).head? = some 45 := by simpa using hc
      simp only [h', if_false] at h
      simp only [h', if_false, List.drop_zero]
      exact leadL_pos h
theorem num_syntax (l : List UInt8) (h : isNumL l = true) : Lib.parseIntB 64 (l.take (numLen l)) ≠ .syntax := by
  have hd := num_digits l h
  have ha := leadL_all 48 57 (l.drop (minusL l))
  rw [num_take]
  generalize leadL 48 57 (l.drop (minusL l)) = t at hd ha
  cases t with
  | nil => simp at hd
  | cons c r =>
    have hc : 48 ≤ c.toNat ∧ c.toNat ≤ 57 := by simp only [allB, List.all_cons, Bool.and_eq_true] at ha; have := ha.1; simp [inB] at this; omega
    have hp := parseM_digits (2 ^ 64 - 1) (c :: r) 0 ha
    have hq : Lib.parseUintB 64 (c :: r) = Lib.parseUintM (2 ^ 64 - 1) 0 (c :: r) := by simp [Lib.parseUintB]
    split
    · simp only [List.cons_append, List.nil_append, Lib.parseIntB]
      simp only [show ((45 : UInt8).toNat = 43 ∨ (45 : UInt8).toNat = 45) from by decide, if_true, hq]
      split
      · rename_i hx; exact absurd hx hp
      · simp
      · split <;> (try simp) ; split <;> simp
    · simp only [List.nil_append, Lib.parseIntB]
      rw [if_neg (by omega), hq]
      split
      · rename_i hx; exact absurd hx hp
      · simp
      · split <;> (try simp) ; split <;> simp

set_option maxRecDepth 100000 in
set_option maxHeartbeats 2000000 in
theorem number35_c (s : ByteArray) (w : World) (hV : Vars w) (hs : s.size ≤ 281474976710656) (hn : isNumL s.data.toList = true) :
    Calls Tryd.prog 35 #[.string s] w fun e w' => e = .returned (encR (numW s.data.toList)) ∧ Below w.heap.size w w' := by
  have hz := hV.size
  have hz1 : 3 < w.heap.size := by omega
  have hs0 := hV.d0
  have hs1 := hV.d1
  obtain ⟨te, pe, her⟩ := hV.er
  have hsl : s.data.toList.length = s.size := Array.length_toList ..
  obtain ⟨m, hm⟩ : ∃ m, m = minusL s.data.toList := ⟨_, rfl⟩
  obtain ⟨t, ht⟩ : ∃ t, t = leadL 48 57 (s.data.toList.drop m) := ⟨_, rfl⟩
  have hnl : numLen s.data.toList = m + t.length := by rw [ht, hm]; rfl
  have hsz : 0 < s.size := by
    rw [← hsl]
    cases h : s.data.toList with
    | nil => rw [h] at hn; cases hn
    | cons c r => simp
  have hm1 : m ≤ 1 := by rw [hm]; unfold minusL; split <;> omega
  have htl : m + t.length ≤ s.size := by
    have := leadL_len 48 57 (s.data.toList.drop m)
    rw [← ht] at this
    simp at this; omega
  have hts : (ByteArray.mk t.toArray).size = t.length := List.size_toArray ..
  have hms : s.size ≤ maxLen := by unfold maxLen; omega
  have hxs : (s.extract m s.size).data.toList = s.data.toList.drop m := by rw [ext_list, ← hsl, List.take_length]
  have hxz : (s.extract m s.size).size ≤ maxLen := by
    have : (s.extract m s.size).data.toList.length = s.size - m := by rw [hxs]; simp
    show (s.extract m s.size).data.size ≤ _
    rw [← Array.length_toList, this]; unfold maxLen; omega
  have hy : (s.extract 0 (m + t.length)).data.toList = s.data.toList.take (numLen s.data.toList) := by rw [ext_list, List.drop_zero, hnl]
  have hyz : (s.extract 0 (m + t.length)).size = m + t.length := by
    show (s.extract 0 (m + t.length)).data.size = _
    rw [← Array.length_toList, hy, List.length_take, hnl]; omega
  have hm0 : ((s[0].toNat : Int) == 45) = decide (m = 1) := by
    have hg : s.data.toList.head? = some s[0] := by
      rw [List.head?_eq_getElem?, List.getElem?_eq_getElem (by rw [hsl]; exact hsz)]; rfl
    rw [hm, minusL, hg]
    by_cases h : s[0] = 45
    · simp [h]
    · have : ¬ s[0].toNat = 45 := fun e => h (UInt8.toNat_inj.1 e)
      simp [h]; omega
  have Ht := hide ht
  have Hx := hide hxs
  have Hy := hide hy
  have Hyz := hide hyz
  have Hn := hide hnl
  have Hm := hide hm
  have Hs := hide hsl
  clear ht hxs hy hyz hnl hm hsl
  obtain ⟨W0, hW0⟩ : ∃ W0, W0 = w.alloc (.cells #[.int .i64 0, .string ⟨#[]⟩, .int .i64 0, .int .i64 0] 32) := ⟨_, rfl⟩
  have b0 : Box W0 w.heap.size 32 w0 := by rw [hW0]; exact Box.new w 32 w0
  have bb0 : Below w.heap.size w W0 := by rw [hW0]; exact (Below.refl _ _).alloc (Nat.le_refl _) _
  have sz0 : W0.heap.size = w.heap.size + 1 := by rw [hW0]; simp
  have e0 : W0.cell? ⟨3, 0, none⟩ = some (.int .u8 48) := (bb0.cell (p := ⟨3, 0, none⟩) hz1).trans hs0
  have e1 : W0.cell? ⟨3, 1, none⟩ = some (.int .u8 57) := (bb0.cell (p := ⟨3, 1, none⟩) hz1).trans hs1
  have g0 := cell_regrown e0
  have g1 := cell_regrown e1
  have HW := hide hW0
  have HB0 := hide b0
  have HBB := hide bb0
  have hmx : Tryd.prog.follows .mixedOrders = true := by kernel_rfl
  clear hW0 b0
  have hm2 : m = 0 ∨ m = 1 := by omega
  have hlead : ∀ W, Calls Tryd.prog 40 #[.agg #[.int .u8 48, .int .u8 57], .string (s.extract m s.size)] W fun e w' => e = .returned (.string ⟨t.toArray⟩) ∧ Below W.heap.size W w' := fun W => by
    refine (lead_c _ _ _ _ hxz).mono ?_
    rintro e w2 ⟨rfl, hb2⟩
    rw [unhide Hx, ← unhide Ht]
    exact ⟨rfl, hb2⟩
  have hnw : numW s.data.toList = match Lib.parseIntB 64 (s.extract 0 (m + t.length)).data.toList with | .ok v => .word 2 [] v (m + t.length) | _ => .bad 12 := by
    rw [numW, unhide Hy, unhide Hn]
    cases Lib.parseIntB 64 (s.data.toList.take (m + t.length)) <;> rfl
  have hns : Lib.parseIntB 64 (s.extract 0 (m + t.length)).data.toList ≠ .syntax := by rw [unhide Hy]; exact num_syntax _ hn
  have Hnw := hide hnw
  have Hns := hide hns
  have HL := hide hlead
  clear hnw hns hlead
  rcases hm2 with rfl | rfl
  · simp at hm0
    have HL2 := hide (show ∀ W, Calls Tryd.prog 40 #[.agg #[.int .u8 48, .int .u8 57], .string s] W fun e w' => e = .returned (.string ⟨t.toArray⟩) ∧ Below W.heap.size W w' from fun W => by have := unhide HL W; rwa [show s.extract 0 s.size = s from ByteArray.extract_zero_size] at this)
    rw [Nat.zero_add] at Hnw Hns Hyz
    obtain ⟨X, hX⟩ : ∃ X, X = s.extract 0 t.length := ⟨_, rfl⟩
    have HX := hide hX
    rw [← hX] at Hnw Hns Hyz
    clear hX
    rcases hp : Lib.parseIntB 64 X.data.toList with v | _ | _
    · have H := hide (show numW s.data.toList = .word 2 [] v t.length by rw [unhide Hnw, hp])
      have Hp := hide hp
      clear hp
      go_enter Tryd.func35, Tryd.ntmps35
      go_wp2
      rw [← unhide HW]
      refine wp_region_quiet_below (by assumption) (by kernel_rfl) ?_
      repeat (quiet_step (first | (go_at_call 40; exact Calls.regrown_of (unhide HL2 _))))
      refine wpQuiet_nil ?_
      intro _ hw'
      obtain ⟨⟨dq, osq⟩, hw''⟩ := hw'
      subst hw''
      have hb1 := below_regrown W0 dq osq
      generalize Sort.grow (redrawn W0 dq) osq = W1 at hb1 ⊢
      go_wp2_with (rw [← unhide HX]; go_at_call 44; refine (Tryd.strconv_ParseInt_10_at64_ok X (by rw [unhide Hyz]; omega) v (unhide Hp) _).mono ?_; rintro e w2 ⟨rfl, hw2⟩; have hb2 : Below W1.heap.size W1 w2 := (by rcases hw2 with rfl | ⟨q, rfl⟩ <;> first | exact Below.refl _ _ | exact Lib.bytesWorld_below _ _ _); have B4 := ((unhide HB0).on hb1 (by omega)).on hb2 (by have := hb1.size; omega); obtain ⟨c0, c1, c2, c3, f0, f1, f2, f3⟩ := Box.four B4)
      obtain ⟨q0, q1, q2, q3, _, _, _, _⟩ := (B4.put4 (.int .i64 2) (.string ⟨#[]⟩) (.int .i64 v) (.int .i64 0)).four
      refine bodyPost_ret (v := encR (.word 2 [] v t.length)) (by simp [results, Tryd.results35, go_sem, q0, q1, q2, q3, encR]) rfl ⟨by rw [unhide H], ?_⟩
      exact below4 (((unhide HBB).trans (hb1.mono (by omega))).trans (hb2.mono (by have := hb1.size; omega))) (Nat.le_refl _) _ _ _ _
    · exact absurd hp (unhide Hns)
    · have H := hide (show numW s.data.toList = .bad 12 by rw [unhide Hnw, hp])
      have Hp := hide hp
      clear hp
      go_enter Tryd.func35, Tryd.ntmps35
      go_wp2
      rw [← unhide HW]
      refine wp_region_quiet_below (by assumption) (by kernel_rfl) ?_
      repeat (quiet_step (first | (go_at_call 40; exact Calls.regrown_of (unhide HL2 _))))
      refine wpQuiet_nil ?_
      intro _ hw'
      obtain ⟨⟨dq, osq⟩, hw''⟩ := hw'
      subst hw''
      have hb1 := below_regrown W0 dq osq
      generalize Sort.grow (redrawn W0 dq) osq = W1 at hb1 ⊢
      have her1 : W1.cell? ⟨7, 0, none⟩ = some (.iface te pe) := (hb1.cell (p := ⟨7, 0, none⟩) (by show 7 < _; omega)).trans ((bb0.cell (p := ⟨7, 0, none⟩) (by show 7 < _; omega)).trans her)
      go_wp2_with (rw [← unhide HX]; go_at_call 44; refine (Tryd.strconv_ParseInt_10_at64_range X (by rw [unhide Hyz]; omega) (unhide Hp) _ _ her1 (.inr ⟨te, pe, rfl⟩)).mono ?_; rintro e w2 ⟨Nq, rfl, hNq, hNb, hb2⟩; have B4 := ((unhide HB0).on hb1 (by omega)).on hb2 (by have := hb1.size; omega); obtain ⟨c0, c1, c2, c3, f0, f1, f2, f3⟩ := Box.four B4)
      obtain ⟨q0, q1, q2, q3, _, _, _, _⟩ := (B4.put4 (.int .i64 0) (.string ⟨#[]⟩) (.int .i64 0) (.int .i64 0)).four
      refine bodyPost_ret (v := encR (.bad 12)) (by simp [results, Tryd.results35, go_sem, q0, q1, q2, q3, encR]) rfl ⟨by rw [unhide H], ?_⟩
      exact below4 (((unhide HBB).trans (hb1.mono (by omega))).trans (hb2.mono (by have := hb1.size; omega))) (Nat.le_refl _) _ _ _ _
  · simp at hm0
    have HL2 := HL
    have h1s : 1 ≤ s.size := hsz
    have h1z : (1 : Int) ≤ s.size := by omega
    obtain ⟨X, hX⟩ : ∃ X, X = s.extract 0 (1 + t.length) := ⟨_, rfl⟩
    have HX := hide hX
    rw [← hX] at Hnw Hns Hyz
    clear hX
    rcases hp : Lib.parseIntB 64 X.data.toList with v | _ | _
    · have H := hide (show numW s.data.toList = .word 2 [] v (1 + t.length) by rw [unhide Hnw, hp])
      have Hp := hide hp
      clear hp
      go_enter Tryd.func35, Tryd.ntmps35
      go_wp2
      rw [← unhide HW]
      refine wp_region_quiet_below (by assumption) (by kernel_rfl) ?_
      repeat (quiet_step (first | (go_at_call 40; exact Calls.regrown_of (unhide HL2 _))))
      refine wpQuiet_nil ?_
      intro _ hw'
      obtain ⟨⟨dq, osq⟩, hw''⟩ := hw'
      subst hw''
      have hb1 := below_regrown W0 dq osq
      generalize Sort.grow (redrawn W0 dq) osq = W1 at hb1 ⊢
      go_wp2_with (rw [← unhide HX]; go_at_call 44; refine (Tryd.strconv_ParseInt_10_at64_ok X (by rw [unhide Hyz]; omega) v (unhide Hp) _).mono ?_; rintro e w2 ⟨rfl, hw2⟩; have hb2 : Below W1.heap.size W1 w2 := (by rcases hw2 with rfl | ⟨q, rfl⟩ <;> first | exact Below.refl _ _ | exact Lib.bytesWorld_below _ _ _); have B4 := ((unhide HB0).on hb1 (by omega)).on hb2 (by have := hb1.size; omega); obtain ⟨c0, c1, c2, c3, f0, f1, f2, f3⟩ := Box.four B4)
      obtain ⟨q0, q1, q2, q3, _, _, _, _⟩ := (B4.put4 (.int .i64 2) (.string ⟨#[]⟩) (.int .i64 v) (.int .i64 0)).four
      refine bodyPost_ret (v := encR (.word 2 [] v (1 + t.length))) (by simp [results, Tryd.results35, go_sem, q0, q1, q2, q3, encR]) rfl ⟨by rw [unhide H], ?_⟩
      exact below4 (((unhide HBB).trans (hb1.mono (by omega))).trans (hb2.mono (by have := hb1.size; omega))) (Nat.le_refl _) _ _ _ _
    · exact absurd hp (unhide Hns)
    · have H := hide (show numW s.data.toList = .bad 12 by rw [unhide Hnw, hp])
      have Hp := hide hp
      clear hp
      go_enter Tryd.func35, Tryd.ntmps35
      go_wp2
      rw [← unhide HW]
      refine wp_region_quiet_below (by assumption) (by kernel_rfl) ?_
      repeat (quiet_step (first | (go_at_call 40; exact Calls.regrown_of (unhide HL2 _))))
      refine wpQuiet_nil ?_
      intro _ hw'
      obtain ⟨⟨dq, osq⟩, hw''⟩ := hw'
      subst hw''
      have hb1 := below_regrown W0 dq osq
      generalize Sort.grow (redrawn W0 dq) osq = W1 at hb1 ⊢
      have her1 : W1.cell? ⟨7, 0, none⟩ = some (.iface te pe) := (hb1.cell (p := ⟨7, 0, none⟩) (by show 7 < _; omega)).trans ((bb0.cell (p := ⟨7, 0, none⟩) (by show 7 < _; omega)).trans her)
      go_wp2_with (rw [← unhide HX]; go_at_call 44; refine (Tryd.strconv_ParseInt_10_at64_range X (by rw [unhide Hyz]; omega) (unhide Hp) _ _ her1 (.inr ⟨te, pe, rfl⟩)).mono ?_; rintro e w2 ⟨Nq, rfl, hNq, hNb, hb2⟩; have B4 := ((unhide HB0).on hb1 (by omega)).on hb2 (by have := hb1.size; omega); obtain ⟨c0, c1, c2, c3, f0, f1, f2, f3⟩ := Box.four B4)
      obtain ⟨q0, q1, q2, q3, _, _, _, _⟩ := (B4.put4 (.int .i64 0) (.string ⟨#[]⟩) (.int .i64 0) (.int .i64 0)).four
      refine bodyPost_ret (v := encR (.bad 12)) (by simp [results, Tryd.results35, go_sem, q0, q1, q2, q3, encR]) rfl ⟨by rw [unhide H], ?_⟩
      exact below4 (((unhide HBB).trans (hb1.mono (by omega))).trans (hb2.mono (by have := hb1.size; omega))) (Nat.le_refl _) _ _ _ _

end Go.Proofs.YtgfaaeloppdkkaaDoor
