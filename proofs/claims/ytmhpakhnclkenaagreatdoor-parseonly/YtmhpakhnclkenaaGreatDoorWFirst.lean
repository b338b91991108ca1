/-
  What number of package word tells: for every text that begins with a number, in whatever world in which the package variables stand; nothing that lay is turned.
  What sign of package word tells: for every text, in whatever world in which the package variables stand; nothing that lay is turned.
  What first of package word tells: for every text that holds a byte, in whatever world in which the package variables stand; nothing that lay is turned.
-/
import Derived.Test.YtmhpakhnclkenaaGreatDoorWLen
import Derived.Test.YtmhpakhnclkenaaGreatDoorReadsZ
import Derived.Test.YtmhpakhnclkenaaGreatDoorWText
namespace Go.Proofs.YtmhpakhnclkenaaGreatDoor
open Go.RowKit Go.Shelf

theorem parseM_digits (M : Nat) : ∀ (l : List UInt8) (acc : Nat), allB 48 57 l = true → Lib.parseUintM M acc l ≠ .syntax
  | [], _, _ => by simp [Lib.parseUintM]
  | c :: r, acc, h => by
    simp only [allB, List.all_cons, Bool.and_eq_true] at h
    have hc : 48 ≤ c.toNat ∧ c.toNat ≤ 57 := by have := h.1; simp [inB] at this; omega
    rw [Lib.parseUintM, if_pos hc]
    split
    · simp
    · split
      · simp
      · exact parseM_digits M r _ h.2
theorem leadL_all (lo hi : Int) (l : List UInt8) : allB lo hi (leadL lo hi l) = true := List.all_takeWhile
theorem num_take (l : List UInt8) : l.take (numLen l) = (if l.head? = some 45 then [45] else []) ++ leadL 48 57 (l.drop (minusL l)) := by
  unfold numLen minusL
  cases l with
  | nil => rfl
  | cons c r =>
    by_cases h : c = 45
    · subst h
      simp only [List.head?_cons, if_true, List.drop_succ_cons, List.drop_zero, Nat.add_comm 1, List.take_succ_cons, List.cons_append, List.nil_append]
      rw [← leadL_take]
    · have h' : ¬ (c :: r).head? = some 45 := by simpa using h
      simp only [h', if_false, List.drop_zero, Nat.zero_add, List.nil_append]
      rw [← leadL_take]
theorem num_digits (l : List UInt8) (h : isNumL l = true) : 1 ≤ (leadL 48 57 (l.drop (minusL l))).length := by
  unfold isNumL at h
  unfold minusL
  cases l with
  | nil => simp at h
  | cons c r =>
    by_cases hc : c = 45
    · subst hc
      simp only [List.head?_cons, if_true, List.tail_cons] at h
      simp only [List.head?_cons, if_true, List.drop_succ_cons, List.drop_zero]
      cases r with
      | nil => simp at h
      | cons d r => exact leadL_pos h
    · have h' : ¬ (c :: r).head? = some 45 := by simpa using hc
      simp only [h', if_false] at h
      simp only [h', if_false, List.drop_zero]
      exact leadL_pos h
theorem num_syntax (l : List UInt8) (h : isNumL l = true) : Lib.parseIntB 64 (l.take (numLen l)) ≠ .syntax := by
  have hd := num_digits l h
  have ha := leadL_all 48 57 (l.drop (minusL l))
  rw [num_take]
  generalize leadL 48 57 (l.drop (minusL l)) = t at hd ha
  cases t with
  | nil => simp at hd
  | cons c r =>
    have hc : 48 ≤ c.toNat ∧ c.toNat ≤ 57 := by simp only [allB, List.all_cons, Bool.and_eq_true] at ha; have := ha.1; simp [inB] at this; omega
    have hp := parseM_digits (2 ^ 64 - 1) (c :: r) 0 ha
    have hq : Lib.parseUintB 64 (c :: r) = Lib.parseUintM (2 ^ 64 - 1) 0 (c :: r) := by simp [Lib.parseUintB]
    split
    · simp only [List.cons_append, List.nil_append, Lib.parseIntB]
      simp only [show ((45 : UInt8).toNat = 43 ∨ (45 : UInt8).toNat = 45) from by decide, if_true, hq]
      split
      · rename_i hx; exact absurd hx hp
      · simp
      · split <;> (try simp) ; split <;> simp
    · simp only [List.nil_append, Lib.parseIntB]
      rw [if_neg (by omega), hq]
      split
      · rename_i hx; exact absurd hx hp
      · simp
      · split <;> (try simp) ; split <;> simp

set_option maxRecDepth 100000 in
set_option maxHeartbeats 2000000 in
theorem number35_c (s : ByteArray) (w : World) (hV : Vars w) (hs : s.size ≤ 281474976710656) (hn : isNumL s.data.toList = true) :
    Calls Tryz.prog 122 #[.string s] w fun e w' => e = .returned (encR (numW s.data.toList)) ∧ Below w.heap.size w w' := by
  have hz := hV.size
  have hz1 : 4 < w.heap.size := by omega
  have hs0 := hV.d0
  have hs1 := hV.d1
  obtain ⟨te, pe, her⟩ := hV.er
  have hsl : s.data.toList.length = s.size := Array.length_toList ..
  obtain ⟨m, hm⟩ : ∃ m, m = minusL s.data.toList := ⟨_, rfl⟩
  obtain ⟨t, ht⟩ : ∃ t, t = leadL 48 57 (s.data.toList.drop m) := ⟨_, rfl⟩
  have hnl : numLen s.data.toList = m + t.length := by rw [ht, hm]; rfl
  have hsz : 0 < s.size := by
    rw [← hsl]
    cases h : s.data.toList with
    | nil => rw [h] at hn; cases hn
    | cons c r => simp
  have hm1 : m ≤ 1 := by rw [hm]; unfold minusL; split <;> omega
  have htl : m + t.length ≤ s.size := by
    have := leadL_len 48 57 (s.data.toList.drop m)
    rw [← ht] at this
    simp at this; omega
  have hts : (ByteArray.mk t.toArray).size = t.length := List.size_toArray ..
  have hms : s.size ≤ maxLen := by unfold maxLen; omega
  have hxs : (s.extract m s.size).data.toList = s.data.toList.drop m := by rw [ext_list, ← hsl, List.take_length]
  have hxz : (s.extract m s.size).size ≤ maxLen := by
    have : (s.extract m s.size).data.toList.length = s.size - m := by rw [hxs]; simp
    show (s.extract m s.size).data.size ≤ _
    rw [← Array.length_toList, this]; unfold maxLen; omega
  have hy : (s.extract 0 (m + t.length)).data.toList = s.data.toList.take (numLen s.data.toList) := by rw [ext_list, List.drop_zero, hnl]
  have hyz : (s.extract 0 (m + t.length)).size = m + t.length := by
    show (s.extract 0 (m + t.length)).data.size = _
    rw [← Array.length_toList, hy, List.length_take, hnl]; omega
  have hm0 : ((s[0].toNat : Int) == 45) = decide (m = 1) := by
    have hg : s.data.toList.head? = some s[0] := by
      rw [List.head?_eq_getElem?, List.getElem?_eq_getElem (by rw [hsl]; exact hsz)]; rfl
    rw [hm, minusL, hg]
    by_cases h : s[0] = 45
    · simp [h]
    · have : ¬ s[0].toNat = 45 := fun e => h (UInt8.toNat_inj.1 e)
      simp [h]; omega
  have Ht := hide ht
  have Hx := hide hxs
  have Hy := hide hy
  have Hyz := hide hyz
  have Hn := hide hnl
  have Hm := hide hm
  have Hs := hide hsl
  clear ht hxs hy hyz hnl hm hsl
  obtain ⟨W0, hW0⟩ : ∃ W0, W0 = w.alloc (.cells #[.int .i64 0, .string ⟨#[]⟩, .int .i64 0, .int .i64 0] 74) := ⟨_, rfl⟩
  have b0 : Box W0 w.heap.size 74 w0 := by rw [hW0]; exact Box.new w 74 w0
  have bb0 : Below w.heap.size w W0 := by rw [hW0]; exact (Below.refl _ _).alloc (Nat.le_refl _) _
  have sz0 : W0.heap.size = w.heap.size + 1 := by rw [hW0]; simp
  have e0 : W0.cell? ⟨4, 0, none⟩ = some (.int .u8 48) := (bb0.cell (p := ⟨4, 0, none⟩) hz1).trans hs0
  have e1 : W0.cell? ⟨4, 1, none⟩ = some (.int .u8 57) := (bb0.cell (p := ⟨4, 1, none⟩) hz1).trans hs1
  have g0 := cell_regrown e0
  have g1 := cell_regrown e1
  have HW := hide hW0
  have HB0 := hide b0
  have HBB := hide bb0
  have hmx : Tryz.prog.follows .mixedOrders = true := by kernel_rfl
  clear hW0 b0
  have hm2 : m = 0 ∨ m = 1 := by omega
  have hlead : ∀ W, Calls Tryz.prog 140 #[.agg #[.int .u8 48, .int .u8 57], .string (s.extract m s.size)] W fun e w' => e = .returned (.string ⟨t.toArray⟩) ∧ Below W.heap.size W w' := fun W => by
    refine (lead_c _ _ _ _ hxz).mono ?_
    rintro e w2 ⟨rfl, hb2⟩
    rw [unhide Hx, ← unhide Ht]
    exact ⟨rfl, hb2⟩
  have hnw : numW s.data.toList = match Lib.parseIntB 64 (s.extract 0 (m + t.length)).data.toList with | .ok v => .word 2 [] v (m + t.length) | _ => .bad 12 := by
    rw [numW, unhide Hy, unhide Hn]
    cases Lib.parseIntB 64 (s.data.toList.take (m + t.length)) <;> rfl
  have hns : Lib.parseIntB 64 (s.extract 0 (m + t.length)).data.toList ≠ .syntax := by rw [unhide Hy]; exact num_syntax _ hn
  have Hnw := hide hnw
  have Hns := hide hns
  have HL := hide hlead
  clear hnw hns hlead
  rcases hm2 with rfl | rfl
  · simp at hm0
    have HL2 := hide (show ∀ W, Calls Tryz.prog 140 #[.agg #[.int .u8 48, .int .u8 57], .string s] W fun e w' => e = .returned (.string ⟨t.toArray⟩) ∧ Below W.heap.size W w' from fun W => by have := unhide HL W; rwa [show s.extract 0 s.size = s from ByteArray.extract_zero_size] at this)
    rw [Nat.zero_add] at Hnw Hns Hyz
    obtain ⟨X, hX⟩ : ∃ X, X = s.extract 0 t.length := ⟨_, rfl⟩
    have HX := hide hX
    rw [← hX] at Hnw Hns Hyz
    clear hX
    rcases hp : Lib.parseIntB 64 X.data.toList with v | _ | _
    · have H := hide (show numW s.data.toList = .word 2 [] v t.length by rw [unhide Hnw, hp])
      have Hp := hide hp
      clear hp
      go_enter Tryz.func122, Tryz.ntmps122
      go_wp2
      rw [← unhide HW]
      refine wp_region_quiet_below (by assumption) (by kernel_rfl) ?_
      repeat (quiet_step (first | (go_at_call 140; exact Calls.regrown_of (unhide HL2 _))))
      refine wpQuiet_nil ?_
      intro _ hw'
      obtain ⟨⟨dq, osq⟩, hw''⟩ := hw'
      subst hw''
      have hb1 := below_regrown W0 dq osq
      generalize Sort.grow (redrawn W0 dq) osq = W1 at hb1 ⊢
      go_wp2_with (rw [← unhide HX]; go_at_call 143; refine (Tryz.strconv_ParseInt_10_at64_ok X (by rw [unhide Hyz]; omega) v (unhide Hp) _).mono ?_; rintro e w2 ⟨rfl, hw2⟩; have hb2 : Below W1.heap.size W1 w2 := (by rcases hw2 with rfl | ⟨q, rfl⟩ <;> first | exact Below.refl _ _ | exact Lib.bytesWorld_below _ _ _); have B4 := ((unhide HB0).on hb1 (by omega)).on hb2 (by have := hb1.size; omega); obtain ⟨c0, c1, c2, c3, f0, f1, f2, f3⟩ := Box.four8 B4)
      obtain ⟨q0, q1, q2, q3, _, _, _, _⟩ := (B4.put4 (.int .i64 2) (.string ⟨#[]⟩) (.int .i64 v) (.int .i64 0)).four8
      refine bodyPost_ret (v := encR (.word 2 [] v t.length)) (by simp [results, Tryz.results122, go_sem, q0, q1, q2, q3, encR]) rfl ⟨by rw [unhide H], ?_⟩
      exact below4 (((unhide HBB).trans (hb1.mono (by omega))).trans (hb2.mono (by have := hb1.size; omega))) (Nat.le_refl _) _ _ _ _
    · exact absurd hp (unhide Hns)
    · have H := hide (show numW s.data.toList = .bad 12 by rw [unhide Hnw, hp])
      have Hp := hide hp
      clear hp
      go_enter Tryz.func122, Tryz.ntmps122
      go_wp2
      rw [← unhide HW]
      refine wp_region_quiet_below (by assumption) (by kernel_rfl) ?_
      repeat (quiet_step (first | (go_at_call 140; exact Calls.regrown_of (unhide HL2 _))))
      refine wpQuiet_nil ?_
      intro _ hw'
      obtain ⟨⟨dq, osq⟩, hw''⟩ := hw'
      subst hw''
      have hb1 := below_regrown W0 dq osq
      generalize Sort.grow (redrawn W0 dq) osq = W1 at hb1 ⊢
      have her1 : W1.cell? ⟨12, 0, none⟩ = some (.iface te pe) := (hb1.cell (p := ⟨12, 0, none⟩) (by show 12 < _; omega)).trans ((bb0.cell (p := ⟨12, 0, none⟩) (by show 12 < _; omega)).trans her)
      go_wp2_with (rw [← unhide HX]; go_at_call 143; refine (Tryz.strconv_ParseInt_10_at64_range X (by rw [unhide Hyz]; omega) (unhide Hp) _ _ her1 (.inr ⟨te, pe, rfl⟩)).mono ?_; rintro e w2 ⟨Nq, rfl, hNq, hNb, hb2⟩; have B4 := ((unhide HB0).on hb1 (by omega)).on hb2 (by have := hb1.size; omega); obtain ⟨c0, c1, c2, c3, f0, f1, f2, f3⟩ := Box.four8 B4)
      obtain ⟨q0, q1, q2, q3, _, _, _, _⟩ := (B4.put4 (.int .i64 0) (.string ⟨#[]⟩) (.int .i64 0) (.int .i64 0)).four8
      refine bodyPost_ret (v := encR (.bad 12)) (by simp [results, Tryz.results122, go_sem, q0, q1, q2, q3, encR]) rfl ⟨by rw [unhide H], ?_⟩
      exact below4 (((unhide HBB).trans (hb1.mono (by omega))).trans (hb2.mono (by have := hb1.size; omega))) (Nat.le_refl _) _ _ _ _
  · simp at hm0
    have HL2 := HL
    have h1s : 1 ≤ s.size := hsz
    have h1z : (1 : Int) ≤ s.size := by omega
    obtain ⟨X, hX⟩ : ∃ X, X = s.extract 0 (1 + t.length) := ⟨_, rfl⟩
    have HX := hide hX
    rw [← hX] at Hnw Hns Hyz
    clear hX
    rcases hp : Lib.parseIntB 64 X.data.toList with v | _ | _
    · have H := hide (show numW s.data.toList = .word 2 [] v (1 + t.length) by rw [unhide Hnw, hp])
      have Hp := hide hp
      clear hp
      go_enter Tryz.func122, Tryz.ntmps122
      go_wp2
      rw [← unhide HW]
      refine wp_region_quiet_below (by assumption) (by kernel_rfl) ?_
      repeat (quiet_step (first | (go_at_call 140; exact Calls.regrown_of (unhide HL2 _))))
      refine wpQuiet_nil ?_
      intro _ hw'
      obtain ⟨⟨dq, osq⟩, hw''⟩ := hw'
      subst hw''
      have hb1 := below_regrown W0 dq osq
      generalize Sort.grow (redrawn W0 dq) osq = W1 at hb1 ⊢
      go_wp2_with (rw [← unhide HX]; go_at_call 143; refine (Tryz.strconv_ParseInt_10_at64_ok X (by rw [unhide Hyz]; omega) v (unhide Hp) _).mono ?_; rintro e w2 ⟨rfl, hw2⟩; have hb2 : Below W1.heap.size W1 w2 := (by rcases hw2 with rfl | ⟨q, rfl⟩ <;> first | exact Below.refl _ _ | exact Lib.bytesWorld_below _ _ _); have B4 := ((unhide HB0).on hb1 (by omega)).on hb2 (by have := hb1.size; omega); obtain ⟨c0, c1, c2, c3, f0, f1, f2, f3⟩ := Box.four8 B4)
      obtain ⟨q0, q1, q2, q3, _, _, _, _⟩ := (B4.put4 (.int .i64 2) (.string ⟨#[]⟩) (.int .i64 v) (.int .i64 0)).four8
      refine bodyPost_ret (v := encR (.word 2 [] v (1 + t.length))) (by simp [results, Tryz.results122, go_sem, q0, q1, q2, q3, encR]) rfl ⟨by rw [unhide H], ?_⟩
      exact below4 (((unhide HBB).trans (hb1.mono (by omega))).trans (hb2.mono (by have := hb1.size; omega))) (Nat.le_refl _) _ _ _ _
    · exact absurd hp (unhide Hns)
    · have H := hide (show numW s.data.toList = .bad 12 by rw [unhide Hnw, hp])
      have Hp := hide hp
      clear hp
      go_enter Tryz.func122, Tryz.ntmps122
      go_wp2
      rw [← unhide HW]
      refine wp_region_quiet_below (by assumption) (by kernel_rfl) ?_
      repeat (quiet_step (first | (go_at_call 140; exact Calls.regrown_of (unhide HL2 _))))
      refine wpQuiet_nil ?_
      intro _ hw'
      obtain ⟨⟨dq, osq⟩, hw''⟩ := hw'
      subst hw''
      have hb1 := below_regrown W0 dq osq
      generalize Sort.grow (redrawn W0 dq) osq = W1 at hb1 ⊢
      have her1 : W1.cell? ⟨12, 0, none⟩ = some (.iface te pe) := (hb1.cell (p := ⟨12, 0, none⟩) (by show 12 < _; omega)).trans ((bb0.cell (p := ⟨12, 0, none⟩) (by show 12 < _; omega)).trans her)
      go_wp2_with (rw [← unhide HX]; go_at_call 143; refine (Tryz.strconv_ParseInt_10_at64_range X (by rw [unhide Hyz]; omega) (unhide Hp) _ _ her1 (.inr ⟨te, pe, rfl⟩)).mono ?_; rintro e w2 ⟨Nq, rfl, hNq, hNb, hb2⟩; have B4 := ((unhide HB0).on hb1 (by omega)).on hb2 (by have := hb1.size; omega); obtain ⟨c0, c1, c2, c3, f0, f1, f2, f3⟩ := Box.four8 B4)
      obtain ⟨q0, q1, q2, q3, _, _, _, _⟩ := (B4.put4 (.int .i64 0) (.string ⟨#[]⟩) (.int .i64 0) (.int .i64 0)).four8
      refine bodyPost_ret (v := encR (.bad 12)) (by simp [results, Tryz.results122, go_sem, q0, q1, q2, q3, encR]) rfl ⟨by rw [unhide H], ?_⟩
      exact below4 (((unhide HBB).trans (hb1.mono (by omega))).trans (hb2.mono (by have := hb1.size; omega))) (Nat.le_refl _) _ _ _ _

end Go.Proofs.YtmhpakhnclkenaaGreatDoor

namespace Go.Proofs.YtmhpakhnclkenaaGreatDoor
open Go.RowKit Go.Shelf

theorem find_take_none {p : List UInt8 → Bool} {l : List (List UInt8)} {k : Nat} (h : (l.take k).find? p = none) (hk : k < l.length) (hp : p l[k] = true) : l.find? p = some l[k] := by
  have e : l = l.take k ++ l[k] :: l.drop (k + 1) := by rw [List.getElem_cons_drop, List.take_append_drop]
  generalize hx : l[k] = x at hp e ⊢
  rw [e, List.find?_append, h]
  simp [hp]
theorem find_take_succ {p : List UInt8 → Bool} {l : List (List UInt8)} {k : Nat} (h : (l.take k).find? p = none) (hk : k < l.length) (hp : p l[k] = false) : (l.take (k + 1)).find? p = none := by
  rw [List.take_succ_eq_append_getElem hk, List.find?_append, h]
  simp [hp]
theorem prefix_has (t l : List UInt8) : Lib.hasPrefix l t = t.isPrefixOf l := by
  rfl

theorem sign_index0 (w : World) : (Instr.index 204 (.agg signsV) (.int .i64 0)).run Tryz.prog w = .ok (.string ⟨#[33, 61]⟩) w := by kernel_rfl
theorem sign_index1 (w : World) : (Instr.index 204 (.agg signsV) (.int .i64 1)).run Tryz.prog w = .ok (.string ⟨#[60, 61]⟩) w := by kernel_rfl
theorem sign_index2 (w : World) : (Instr.index 204 (.agg signsV) (.int .i64 2)).run Tryz.prog w = .ok (.string ⟨#[40]⟩) w := by kernel_rfl
theorem sign_index3 (w : World) : (Instr.index 204 (.agg signsV) (.int .i64 3)).run Tryz.prog w = .ok (.string ⟨#[41]⟩) w := by kernel_rfl
theorem sign_index4 (w : World) : (Instr.index 204 (.agg signsV) (.int .i64 4)).run Tryz.prog w = .ok (.string ⟨#[91]⟩) w := by kernel_rfl
theorem sign_index5 (w : World) : (Instr.index 204 (.agg signsV) (.int .i64 5)).run Tryz.prog w = .ok (.string ⟨#[93]⟩) w := by kernel_rfl
theorem sign_index6 (w : World) : (Instr.index 204 (.agg signsV) (.int .i64 6)).run Tryz.prog w = .ok (.string ⟨#[58]⟩) w := by kernel_rfl
theorem sign_index7 (w : World) : (Instr.index 204 (.agg signsV) (.int .i64 7)).run Tryz.prog w = .ok (.string ⟨#[124]⟩) w := by kernel_rfl
theorem sign_index8 (w : World) : (Instr.index 204 (.agg signsV) (.int .i64 8)).run Tryz.prog w = .ok (.string ⟨#[44]⟩) w := by kernel_rfl
theorem sign_index9 (w : World) : (Instr.index 204 (.agg signsV) (.int .i64 9)).run Tryz.prog w = .ok (.string ⟨#[43]⟩) w := by kernel_rfl
theorem sign_index10 (w : World) : (Instr.index 204 (.agg signsV) (.int .i64 10)).run Tryz.prog w = .ok (.string ⟨#[33]⟩) w := by kernel_rfl
theorem sign_index11 (w : World) : (Instr.index 204 (.agg signsV) (.int .i64 11)).run Tryz.prog w = .ok (.string ⟨#[46]⟩) w := by kernel_rfl
theorem sign_index12 (w : World) : (Instr.index 204 (.agg signsV) (.int .i64 12)).run Tryz.prog w = .ok (.string ⟨#[45]⟩) w := by kernel_rfl
theorem sign_index13 (w : World) : (Instr.index 204 (.agg signsV) (.int .i64 13)).run Tryz.prog w = .ok (.string ⟨#[42]⟩) w := by kernel_rfl
theorem sign_index14 (w : World) : (Instr.index 204 (.agg signsV) (.int .i64 14)).run Tryz.prog w = .ok (.string ⟨#[61]⟩) w := by kernel_rfl
theorem sign_index15 (w : World) : (Instr.index 204 (.agg signsV) (.int .i64 15)).run Tryz.prog w = .ok (.string ⟨#[60]⟩) w := by kernel_rfl
theorem sign_index (k : Nat) (h : k < 16) (w : World) : (Instr.index 204 (.agg signsV) (.int .i64 k)).run Tryz.prog w = .ok (.string ⟨(signsL[k]'h).toArray⟩) w := by
  match k, h with
  | 0, _ => exact sign_index0 w
  | 1, _ => exact sign_index1 w
  | 2, _ => exact sign_index2 w
  | 3, _ => exact sign_index3 w
  | 4, _ => exact sign_index4 w
  | 5, _ => exact sign_index5 w
  | 6, _ => exact sign_index6 w
  | 7, _ => exact sign_index7 w
  | 8, _ => exact sign_index8 w
  | 9, _ => exact sign_index9 w
  | 10, _ => exact sign_index10 w
  | 11, _ => exact sign_index11 w
  | 12, _ => exact sign_index12 w
  | 13, _ => exact sign_index13 w
  | 14, _ => exact sign_index14 w
  | 15, _ => exact sign_index15 w
  | k + 16, h => omega

set_option maxRecDepth 100000 in
set_option maxHeartbeats 1000000 in
theorem sign37_c (s : ByteArray) (w : World) (hV : Vars w) :
    Calls Tryz.prog 124 #[.string s] w fun e w' => e = .returned (encR (signW s.data.toList)) ∧ Below w.heap.size w w' := by
  have hz := hV.size
  have hz1 : 5 < w.heap.size := by omega
  have h0 : w.cell? ⟨5, 0, none⟩ = some (.string ⟨#[33, 61]⟩) := hV.sg 0 (by decide)
  have h1 : w.cell? ⟨5, 1, none⟩ = some (.string ⟨#[60, 61]⟩) := hV.sg 1 (by decide)
  have h2 : w.cell? ⟨5, 2, none⟩ = some (.string ⟨#[40]⟩) := hV.sg 2 (by decide)
  have h3 : w.cell? ⟨5, 3, none⟩ = some (.string ⟨#[41]⟩) := hV.sg 3 (by decide)
  have h4 : w.cell? ⟨5, 4, none⟩ = some (.string ⟨#[91]⟩) := hV.sg 4 (by decide)
  have h5 : w.cell? ⟨5, 5, none⟩ = some (.string ⟨#[93]⟩) := hV.sg 5 (by decide)
  have h6 : w.cell? ⟨5, 6, none⟩ = some (.string ⟨#[58]⟩) := hV.sg 6 (by decide)
  have h7 : w.cell? ⟨5, 7, none⟩ = some (.string ⟨#[124]⟩) := hV.sg 7 (by decide)
  have h8 : w.cell? ⟨5, 8, none⟩ = some (.string ⟨#[44]⟩) := hV.sg 8 (by decide)
  have h9 : w.cell? ⟨5, 9, none⟩ = some (.string ⟨#[43]⟩) := hV.sg 9 (by decide)
  have h10 : w.cell? ⟨5, 10, none⟩ = some (.string ⟨#[33]⟩) := hV.sg 10 (by decide)
  have h11 : w.cell? ⟨5, 11, none⟩ = some (.string ⟨#[46]⟩) := hV.sg 11 (by decide)
  have h12 : w.cell? ⟨5, 12, none⟩ = some (.string ⟨#[45]⟩) := hV.sg 12 (by decide)
  have h13 : w.cell? ⟨5, 13, none⟩ = some (.string ⟨#[42]⟩) := hV.sg 13 (by decide)
  have h14 : w.cell? ⟨5, 14, none⟩ = some (.string ⟨#[61]⟩) := hV.sg 14 (by decide)
  have h15 : w.cell? ⟨5, 15, none⟩ = some (.string ⟨#[60]⟩) := hV.sg 15 (by decide)
  have b0 := Box.new w 74 w0
  have bb0 : Below w.heap.size w (w.alloc (.cells w0 74)) := (Below.refl _ _).alloc (Nat.le_refl _) _
  have B0 := hide b0
  have BB0 := hide bb0
  clear b0 bb0
  go_enter Tryz.func124, Tryz.ntmps124
  go_wp2
  trace_state
  go_loopw [8] (fun i wr => ∃ k : Nat, k ≤ 16 ∧ i = .int .i64 k ∧ Hid ((signsL.take k).find? (fun t => t.isPrefixOf s.data.toList) = none) ∧ Below (w.heap.size + 1) (w.alloc (.cells w0 74)) wr) (fun i _ => 16 - (intOf i).toNat)
  case atStart => exact ⟨0, Nat.zero_le _, rfl, hide rfl, Below.refl _ _⟩
  case round =>
    obtain ⟨k, hk, rfl, hn, hb⟩ := hrel
    by_cases hlt : k < 16
    · skip
      have hk : k < signsL.length := hlt
      obtain ⟨t, ht⟩ : ∃ t, t = signsL[k] := ⟨_, rfl⟩
      have hat : ∀ w, (Instr.index 204 (.agg signsV) (.int .i64 k)).run Tryz.prog w = .ok (.string ⟨t.toArray⟩) w := fun w => by rw [sign_index k hlt, ht]; rfl
      unfold signsV at hat
      have htd : (ByteArray.mk t.toArray).data.toList = t := rfl
      have hts : (ByteArray.mk t.toArray).size = t.length := List.size_toArray ..
      cases hp : t.isPrefixOf s.data.toList
      · have hn' := hide (find_take_succ (unhide hn) hk (by rw [← ht]; exact hp))
        have Hp := hide hp
        clear hp ht
        go_wp2_with (go_at_call 146; refine (Tryz.strings_HasPrefix _ _ _).mono ?_; rintro e w2 ⟨rfl, rfl⟩; rw [prefix_has, htd, unhide Hp])
        go_roundw
        case rel => exact ⟨k + 1, by omega, by go_num, hn', hb⟩
        case measure => simp [intOf]; omega
      · have H := hide (show signW s.data.toList = .word 5 t 0 t.length by rw [signW, find_take_none (unhide hn) hk (by rw [← ht]; exact hp), ht])
        have Hp := hide hp
        clear hp ht
        have B4 := (unhide B0).on hb (by simp)
        obtain ⟨c0, c1, c2, c3, f0, f1, f2, f3⟩ := Box.four8 B4
        go_wp2_with (go_at_call 146; refine (Tryz.strings_HasPrefix _ _ _).mono ?_; rintro e w2 ⟨rfl, rfl⟩; rw [prefix_has, htd, unhide Hp])
        obtain ⟨q0, q1, q2, q3, _, _, _, _⟩ := (B4.put4 (.int .i64 5) (.string ⟨t.toArray⟩) (.int .i64 0) (.int .i64 0)).four8
        refine bodyPost_ret (v := encR (.word 5 t 0 t.length)) (by simp [results, Tryz.results124, go_sem, q0, q1, q2, q3, encR]) rfl ⟨by rw [unhide H], ?_⟩
        exact below4 ((unhide BB0).trans (hb.mono (by omega))) (Nat.le_refl _) _ _ _ _
    · obtain rfl : k = 16 := by omega
      have H := hide (show signW s.data.toList = .bad 21 by
        have := unhide hn
        rw [show signsL.take 16 = signsL from rfl] at this
        rw [signW, this])
      have B4 := (unhide B0).on hb (by simp)
      obtain ⟨c0, c1, c2, c3, f0, f1, f2, f3⟩ := Box.four8 B4
      go_wp2
      obtain ⟨q0, q1, q2, q3, _, _, _, _⟩ := (B4.put4 (.int .i64 0) (.string ⟨#[]⟩) (.int .i64 0) (.int .i64 0)).four8
      refine bodyPost_ret (v := encR (.bad 21)) (by simp [results, Tryz.results124, go_sem, q0, q1, q2, q3, encR]) rfl ⟨by rw [unhide H], ?_⟩
      exact below4 ((unhide BB0).trans (hb.mono (by omega))) (Nat.le_refl _) _ _ _ _

end Go.Proofs.YtmhpakhnclkenaaGreatDoor

namespace Go.Proofs.YtmhpakhnclkenaaGreatDoor
open Go.RowKit Go.Shelf

theorem encR_form (r : Wd) : ∃ k t n len ev, encR r = .tuple #[.agg #[.int .i64 k, .string t, .int .i64 n, .int .i64 0], .int .i64 len, ev] := by
  cases r with
  | word k t n len => exact ⟨k, _, n, len, _, rfl⟩
  | bad e => exact ⟨0, _, 0, 0, _, rfl⟩

theorem firstW_name (l : List UInt8) (c : UInt8) (hc : l.head? = some c) (h : inB 97 122 c.toNat = true) : firstW l = nameW l := by
  cases l with
  | nil => cases hc
  | cons d r => cases hc; simp [firstW, h]
theorem firstW_great (l : List UInt8) (c : UInt8) (hc : l.head? = some c) (h : inB 97 122 c.toNat = false) (h2 : inB 65 90 c.toNat = true) : firstW l = greatW l := by
  cases l with
  | nil => cases hc
  | cons d r => cases hc; simp [firstW, h, h2]
theorem firstW_num (l : List UInt8) (c : UInt8) (hc : l.head? = some c) (h : inB 97 122 c.toNat = false) (h2 : inB 65 90 c.toNat = false) (h3 : isNumL l = true) : firstW l = numW l := by
  cases l with
  | nil => cases hc
  | cons d r => cases hc; simp [firstW, h, h2, h3]
theorem firstW_text (l : List UInt8) (c : UInt8) (hc : l.head? = some c) (h : inB 97 122 c.toNat = false) (h2 : inB 65 90 c.toNat = false) (h3 : isNumL l = false) (h4 : c.toNat = 34) : firstW l = textW l := by
  cases l with
  | nil => cases hc
  | cons d r => cases hc; show (if inB 97 122 c.toNat = true then nameW (c :: r) else if inB 65 90 c.toNat = true then greatW (c :: r) else if isNumL (c :: r) = true then numW (c :: r) else if c.toNat = 34 then textW (c :: r) else signW (c :: r)) = _; rw [if_neg (by rw [h]; decide), if_neg (by rw [h2]; decide), if_neg (by rw [h3]; decide), if_pos h4]
theorem firstW_sign (l : List UInt8) (c : UInt8) (hc : l.head? = some c) (h : inB 97 122 c.toNat = false) (h2 : inB 65 90 c.toNat = false) (h3 : isNumL l = false) (h4 : ¬ c.toNat = 34) : firstW l = signW l := by
  cases l with
  | nil => cases hc
  | cons d r => cases hc; simp [firstW, h, h2, h3, h4]

set_option maxRecDepth 100000 in
set_option maxHeartbeats 2000000 in
theorem first23_name (s : ByteArray) (w : World) (hV : Vars w) (hs : s.size ≤ 281474976710656) (hsz : 0 < s.size) (h1 : inB 97 122 s[0].toNat = true) :
    Calls Tryz.prog 96 #[.string s] w fun e w' => e = .returned (encR (firstW s.data.toList)) ∧ Below w.heap.size w w' := by
  have hz := hV.size
  have hz1 : 1 < w.heap.size := by omega
  have hz2 : 2 < w.heap.size := by omega
  have hg : s.data.toList.head? = some s[0] := by
    rw [List.head?_eq_getElem?, List.getElem?_eq_getElem (by rw [Array.length_toList]; exact hsz)]; rfl
  have hmx : Tryz.prog.follows .mixedOrders = true := by kernel_rfl
  obtain ⟨W0, hW0⟩ : ∃ W0, W0 = w.alloc (.cells #[.int .i64 0, .string ⟨#[]⟩, .int .i64 0, .int .i64 0] 74) := ⟨_, rfl⟩
  have b0 : Box W0 w.heap.size 74 w0 := by rw [hW0]; exact Box.new w 74 w0
  have bb0 : Below w.heap.size w W0 := by rw [hW0]; exact (Below.refl _ _).alloc (Nat.le_refl _) _
  have sz0 : W0.heap.size = w.heap.size + 1 := by rw [hW0]; simp
  have hV0 : Vars W0 := hV.on bb0 hz
  have HW := hide hW0
  have HB := hide b0
  have HBB := hide bb0
  clear hW0 b0
  have e10 := cell_regrown hV0.s0
  have e11 := cell_regrown hV0.s1
  have hlead : 1 ≤ (leadL 97 122 s.data.toList).length := by
    cases h : s.data.toList with
    | nil => rw [h] at hg; cases hg
    | cons d r => rw [h] at hg; cases hg; exact leadL_pos h1
  have H := hide (show firstW s.data.toList = nameW s.data.toList from firstW_name _ _ hg h1)
  obtain ⟨ka, ta, na, la, ea, hf⟩ := encR_form (nameW s.data.toList)
  have HF := hide hf
  have HC1 := hide (show ∀ W, Calls Tryz.prog 118 #[.agg #[.int .u8 97, .int .u8 122], .int .u8 s[0].toNat] W fun e w' => e = .returned (.bool true) ∧ Below W.heap.size W w' from fun W => by have := has31_c 97 122 s[0].toNat W; rwa [h1] at this)
  clear hg hf h1
  go_enter Tryz.func96, Tryz.ntmps96
  go_wp2
  rw [← unhide HW]
  refine wp_region_quiet_below (by assumption) (by kernel_rfl) ?_
  repeat (quiet_step (first | (go_at_call 118; exact Calls.regrown_of (unhide HC1 _))))
  refine wpQuiet_nil ?_
  intro _ hw'
  obtain ⟨⟨dq, osq⟩, hw''⟩ := hw'
  subst hw''
  have hb1 := below_regrown W0 dq osq
  generalize Sort.grow (redrawn W0 dq) osq = W1 at hb1 ⊢
  have hV1 : Vars W1 := hV0.on hb1 (by have := hV0.size; omega)
  go_wp2_with (first
    | (go_at_call 119; refine (name32_c _ _ hV1 hs hlead).mono ?_; rintro e W9 ⟨rfl, hb9⟩; rw [unhide HF]; have B4 := (((unhide HB).on hb1 (by omega)).on hb9 (by have := hb1.size; omega)); obtain ⟨c0, c1, c2, c3, f0, f1, f2, f3⟩ := Box.four8 B4))
  obtain ⟨q0, q1, q2, q3, _, _, _, _⟩ := (B4.put4 (.int .i64 ka) (.string ta) (.int .i64 na) (.int .i64 0)).four8
  refine bodyPost_ret (v := .tuple #[.agg #[.int .i64 ka, .string ta, .int .i64 na, .int .i64 0], .int .i64 la, ea]) (by simp [results, Tryz.results96, go_sem, q0, q1, q2, q3]) rfl ⟨by rw [unhide H, unhide HF], ?_⟩
  exact below4 (((unhide HBB).trans (hb1.mono (by omega))).trans (hb9.mono (by have := hb1.size; omega))) (Nat.le_refl _) _ _ _ _

set_option maxRecDepth 100000 in
set_option maxHeartbeats 2000000 in
theorem first23_great (s : ByteArray) (w : World) (hV : Vars w) (hs : s.size ≤ 281474976710656) (hsz : 0 < s.size) (h1 : inB 97 122 s[0].toNat = false) (h2 : inB 65 90 s[0].toNat = true) :
    Calls Tryz.prog 96 #[.string s] w fun e w' => e = .returned (encR (firstW s.data.toList)) ∧ Below w.heap.size w w' := by
  have hz := hV.size
  have hz1 : 1 < w.heap.size := by omega
  have hz2 : 2 < w.heap.size := by omega
  have hg : s.data.toList.head? = some s[0] := by
    rw [List.head?_eq_getElem?, List.getElem?_eq_getElem (by rw [Array.length_toList]; exact hsz)]; rfl
  have hmx : Tryz.prog.follows .mixedOrders = true := by kernel_rfl
  obtain ⟨W0, hW0⟩ : ∃ W0, W0 = w.alloc (.cells #[.int .i64 0, .string ⟨#[]⟩, .int .i64 0, .int .i64 0] 74) := ⟨_, rfl⟩
  have b0 : Box W0 w.heap.size 74 w0 := by rw [hW0]; exact Box.new w 74 w0
  have bb0 : Below w.heap.size w W0 := by rw [hW0]; exact (Below.refl _ _).alloc (Nat.le_refl _) _
  have sz0 : W0.heap.size = w.heap.size + 1 := by rw [hW0]; simp
  have hV0 : Vars W0 := hV.on bb0 hz
  have HW := hide hW0
  have HB := hide b0
  have HBB := hide bb0
  clear hW0 b0
  have e10 := cell_regrown hV0.s0
  have e11 := cell_regrown hV0.s1
  have H := hide (show firstW s.data.toList = greatW s.data.toList from firstW_great _ _ hg h1 h2)
  obtain ⟨ka, ta, na, la, ea, hf⟩ := encR_form (greatW s.data.toList)
  have HF := hide hf
  have HC1 := hide (show ∀ W, Calls Tryz.prog 118 #[.agg #[.int .u8 97, .int .u8 122], .int .u8 s[0].toNat] W fun e w' => e = .returned (.bool false) ∧ Below W.heap.size W w' from fun W => by have := has31_c 97 122 s[0].toNat W; rwa [h1] at this)
  have HC2 := hide (show ∀ W, Calls Tryz.prog 118 #[.agg #[.int .u8 65, .int .u8 90], .int .u8 s[0].toNat] W fun e w' => e = .returned (.bool true) ∧ Below W.heap.size W w' from fun W => by have := has31_c 65 90 s[0].toNat W; rwa [h2] at this)
  clear hg hf h1 h2
  go_enter Tryz.func96, Tryz.ntmps96
  go_wp2
  rw [← unhide HW]
  refine wp_region_quiet_below (by assumption) (by kernel_rfl) ?_
  repeat (quiet_step (first | (go_at_call 118; exact Calls.regrown_of (unhide HC1 _))))
  refine wpQuiet_nil ?_
  intro _ hw'
  obtain ⟨⟨dq, osq⟩, hw''⟩ := hw'
  subst hw''
  have hb1 := below_regrown W0 dq osq
  generalize Sort.grow (redrawn W0 dq) osq = W1 at hb1 ⊢
  have hV1 : Vars W1 := hV0.on hb1 (by have := hV0.size; omega)
  have e20 := cell_regrown hV1.g0
  have e21 := cell_regrown hV1.g1
  go_wp2
  refine wp_region_quiet_below (by assumption) (by kernel_rfl) ?_
  repeat (quiet_step (first | (go_at_call 118; exact Calls.regrown_of (unhide HC2 _))))
  refine wpQuiet_nil ?_
  intro _ hw'
  obtain ⟨⟨dq, osq⟩, hw''⟩ := hw'
  subst hw''
  have hb2 := below_regrown W1 dq osq
  generalize Sort.grow (redrawn W1 dq) osq = W2 at hb2 ⊢
  have hV2 : Vars W2 := hV1.on hb2 (by have := hV1.size; omega)
  go_wp2_with (first
    | (go_at_call 120; refine (great33_c _ _ hV2 hs).mono ?_; rintro e W9 ⟨rfl, hb9⟩; rw [unhide HF]; have B4 := ((((unhide HB).on hb1 (by omega)).on hb2 (by have := hb1.size; omega)).on hb9 (by have := hb1.size; have := hb2.size; omega)); obtain ⟨c0, c1, c2, c3, f0, f1, f2, f3⟩ := Box.four8 B4))
  obtain ⟨q0, q1, q2, q3, _, _, _, _⟩ := (B4.put4 (.int .i64 ka) (.string ta) (.int .i64 na) (.int .i64 0)).four8
  refine bodyPost_ret (v := .tuple #[.agg #[.int .i64 ka, .string ta, .int .i64 na, .int .i64 0], .int .i64 la, ea]) (by simp [results, Tryz.results96, go_sem, q0, q1, q2, q3]) rfl ⟨by rw [unhide H, unhide HF], ?_⟩
  exact below4 ((((unhide HBB).trans (hb1.mono (by omega))).trans (hb2.mono (by have := hb1.size; omega))).trans (hb9.mono (by have := hb1.size; have := hb2.size; omega))) (Nat.le_refl _) _ _ _ _

set_option maxRecDepth 100000 in
set_option maxHeartbeats 2000000 in
theorem first23_num (s : ByteArray) (w : World) (hV : Vars w) (hs : s.size ≤ 281474976710656) (hsz : 0 < s.size) (h1 : inB 97 122 s[0].toNat = false) (h2 : inB 65 90 s[0].toNat = false) (h3 : isNumL s.data.toList = true) :
    Calls Tryz.prog 96 #[.string s] w fun e w' => e = .returned (encR (firstW s.data.toList)) ∧ Below w.heap.size w w' := by
  have hz := hV.size
  have hz1 : 1 < w.heap.size := by omega
  have hz2 : 2 < w.heap.size := by omega
  have hg : s.data.toList.head? = some s[0] := by
    rw [List.head?_eq_getElem?, List.getElem?_eq_getElem (by rw [Array.length_toList]; exact hsz)]; rfl
  have hmx : Tryz.prog.follows .mixedOrders = true := by kernel_rfl
  obtain ⟨W0, hW0⟩ : ∃ W0, W0 = w.alloc (.cells #[.int .i64 0, .string ⟨#[]⟩, .int .i64 0, .int .i64 0] 74) := ⟨_, rfl⟩
  have b0 : Box W0 w.heap.size 74 w0 := by rw [hW0]; exact Box.new w 74 w0
  have bb0 : Below w.heap.size w W0 := by rw [hW0]; exact (Below.refl _ _).alloc (Nat.le_refl _) _
  have sz0 : W0.heap.size = w.heap.size + 1 := by rw [hW0]; simp
  have hV0 : Vars W0 := hV.on bb0 hz
  have HW := hide hW0
  have HB := hide b0
  have HBB := hide bb0
  clear hW0 b0
  have e10 := cell_regrown hV0.s0
  have e11 := cell_regrown hV0.s1
  have H := hide (show firstW s.data.toList = numW s.data.toList from firstW_num _ _ hg h1 h2 h3)
  obtain ⟨ka, ta, na, la, ea, hf⟩ := encR_form (numW s.data.toList)
  have HF := hide hf
  have HC1 := hide (show ∀ W, Calls Tryz.prog 118 #[.agg #[.int .u8 97, .int .u8 122], .int .u8 s[0].toNat] W fun e w' => e = .returned (.bool false) ∧ Below W.heap.size W w' from fun W => by have := has31_c 97 122 s[0].toNat W; rwa [h1] at this)
  have HC2 := hide (show ∀ W, Calls Tryz.prog 118 #[.agg #[.int .u8 65, .int .u8 90], .int .u8 s[0].toNat] W fun e w' => e = .returned (.bool false) ∧ Below W.heap.size W w' from fun W => by have := has31_c 65 90 s[0].toNat W; rwa [h2] at this)
  have Hn := hide h3
  clear hg hf h1 h2
  go_enter Tryz.func96, Tryz.ntmps96
  go_wp2
  rw [← unhide HW]
  refine wp_region_quiet_below (by assumption) (by kernel_rfl) ?_
  repeat (quiet_step (first | (go_at_call 118; exact Calls.regrown_of (unhide HC1 _))))
  refine wpQuiet_nil ?_
  intro _ hw'
  obtain ⟨⟨dq, osq⟩, hw''⟩ := hw'
  subst hw''
  have hb1 := below_regrown W0 dq osq
  generalize Sort.grow (redrawn W0 dq) osq = W1 at hb1 ⊢
  have hV1 : Vars W1 := hV0.on hb1 (by have := hV0.size; omega)
  have e20 := cell_regrown hV1.g0
  have e21 := cell_regrown hV1.g1
  go_wp2
  refine wp_region_quiet_below (by assumption) (by kernel_rfl) ?_
  repeat (quiet_step (first | (go_at_call 118; exact Calls.regrown_of (unhide HC2 _))))
  refine wpQuiet_nil ?_
  intro _ hw'
  obtain ⟨⟨dq, osq⟩, hw''⟩ := hw'
  subst hw''
  have hb2 := below_regrown W1 dq osq
  generalize Sort.grow (redrawn W1 dq) osq = W2 at hb2 ⊢
  have hV2 : Vars W2 := hV1.on hb2 (by have := hV1.size; omega)
  go_wp2_with (first
    | (go_at_call 121; refine (isNum34_c _ _ hV2).mono ?_; rintro e W3 ⟨rfl, hb3⟩; rw [unhide Hn]; have hV3 : Vars W3 := hV2.on hb3 hV2.size)
    | (go_at_call 122; refine (number35_c _ _ hV3 hs (unhide Hn)).mono ?_; rintro e W9 ⟨rfl, hb9⟩; rw [unhide HF]; have B4 := (((((unhide HB).on hb1 (by omega)).on hb2 (by have := hb1.size; omega)).on hb3 (by have := hb1.size; have := hb2.size; omega)).on hb9 (by have := hb1.size; have := hb2.size; have := hb3.size; omega)); obtain ⟨c0, c1, c2, c3, f0, f1, f2, f3⟩ := Box.four8 B4))
  obtain ⟨q0, q1, q2, q3, _, _, _, _⟩ := (B4.put4 (.int .i64 ka) (.string ta) (.int .i64 na) (.int .i64 0)).four8
  refine bodyPost_ret (v := .tuple #[.agg #[.int .i64 ka, .string ta, .int .i64 na, .int .i64 0], .int .i64 la, ea]) (by simp [results, Tryz.results96, go_sem, q0, q1, q2, q3]) rfl ⟨by rw [unhide H, unhide HF], ?_⟩
  exact below4 (((((unhide HBB).trans (hb1.mono (by omega))).trans (hb2.mono (by have := hb1.size; omega))).trans (hb3.mono (by have := hb1.size; have := hb2.size; omega))).trans (hb9.mono (by have := hb1.size; have := hb2.size; have := hb3.size; omega))) (Nat.le_refl _) _ _ _ _

set_option maxRecDepth 100000 in
set_option maxHeartbeats 2000000 in
theorem first23_text (s : ByteArray) (w : World) (hV : Vars w) (hs : s.size ≤ 281474976710656) (hsz : 0 < s.size) (h1 : inB 97 122 s[0].toNat = false) (h2 : inB 65 90 s[0].toNat = false) (h3 : isNumL s.data.toList = false) (h4 : s[0].toNat = 34) :
    Calls Tryz.prog 96 #[.string s] w fun e w' => e = .returned (encR (firstW s.data.toList)) ∧ Below w.heap.size w w' := by
  have hz := hV.size
  have hz1 : 1 < w.heap.size := by omega
  have hz2 : 2 < w.heap.size := by omega
  have hg : s.data.toList.head? = some s[0] := by
    rw [List.head?_eq_getElem?, List.getElem?_eq_getElem (by rw [Array.length_toList]; exact hsz)]; rfl
  have hmx : Tryz.prog.follows .mixedOrders = true := by kernel_rfl
  obtain ⟨W0, hW0⟩ : ∃ W0, W0 = w.alloc (.cells #[.int .i64 0, .string ⟨#[]⟩, .int .i64 0, .int .i64 0] 74) := ⟨_, rfl⟩
  have b0 : Box W0 w.heap.size 74 w0 := by rw [hW0]; exact Box.new w 74 w0
  have bb0 : Below w.heap.size w W0 := by rw [hW0]; exact (Below.refl _ _).alloc (Nat.le_refl _) _
  have sz0 : W0.heap.size = w.heap.size + 1 := by rw [hW0]; simp
  have hV0 : Vars W0 := hV.on bb0 hz
  have HW := hide hW0
  have HB := hide b0
  have HBB := hide bb0
  clear hW0 b0
  have e10 := cell_regrown hV0.s0
  have e11 := cell_regrown hV0.s1
  have H := hide (show firstW s.data.toList = textW s.data.toList from firstW_text _ _ hg h1 h2 h3 h4)
  obtain ⟨ka, ta, na, la, ea, hf⟩ := encR_form (textW s.data.toList)
  have HF := hide hf
  have HC1 := hide (show ∀ W, Calls Tryz.prog 118 #[.agg #[.int .u8 97, .int .u8 122], .int .u8 s[0].toNat] W fun e w' => e = .returned (.bool false) ∧ Below W.heap.size W w' from fun W => by have := has31_c 97 122 s[0].toNat W; rwa [h1] at this)
  have HC2 := hide (show ∀ W, Calls Tryz.prog 118 #[.agg #[.int .u8 65, .int .u8 90], .int .u8 s[0].toNat] W fun e w' => e = .returned (.bool false) ∧ Below W.heap.size W w' from fun W => by have := has31_c 65 90 s[0].toNat W; rwa [h2] at this)
  have h34 : ((s[0].toNat : Int) == 34) = true := by simp [h4]
  have Hn := hide h3
  clear hg hf h1 h2 h3 h4
  go_enter Tryz.func96, Tryz.ntmps96
  go_wp2
  rw [← unhide HW]
  refine wp_region_quiet_below (by assumption) (by kernel_rfl) ?_
  repeat (quiet_step (first | (go_at_call 118; exact Calls.regrown_of (unhide HC1 _))))
  refine wpQuiet_nil ?_
  intro _ hw'
  obtain ⟨⟨dq, osq⟩, hw''⟩ := hw'
  subst hw''
  have hb1 := below_regrown W0 dq osq
  generalize Sort.grow (redrawn W0 dq) osq = W1 at hb1 ⊢
  have hV1 : Vars W1 := hV0.on hb1 (by have := hV0.size; omega)
  have e20 := cell_regrown hV1.g0
  have e21 := cell_regrown hV1.g1
  go_wp2
  refine wp_region_quiet_below (by assumption) (by kernel_rfl) ?_
  repeat (quiet_step (first | (go_at_call 118; exact Calls.regrown_of (unhide HC2 _))))
  refine wpQuiet_nil ?_
  intro _ hw'
  obtain ⟨⟨dq, osq⟩, hw''⟩ := hw'
  subst hw''
  have hb2 := below_regrown W1 dq osq
  generalize Sort.grow (redrawn W1 dq) osq = W2 at hb2 ⊢
  have hV2 : Vars W2 := hV1.on hb2 (by have := hV1.size; omega)
  go_wp2_with (first
    | (go_at_call 121; refine (isNum34_c _ _ hV2).mono ?_; rintro e W3 ⟨rfl, hb3⟩; rw [unhide Hn]; have hV3 : Vars W3 := hV2.on hb3 hV2.size)
    | (go_at_call 123; refine (text36_c _ _ hV3 hs).mono ?_; rintro e W9 ⟨rfl, hb9⟩; rw [unhide HF]; have B4 := (((((unhide HB).on hb1 (by omega)).on hb2 (by have := hb1.size; omega)).on hb3 (by have := hb1.size; have := hb2.size; omega)).on hb9 (by have := hb1.size; have := hb2.size; have := hb3.size; omega)); obtain ⟨c0, c1, c2, c3, f0, f1, f2, f3⟩ := Box.four8 B4))
  obtain ⟨q0, q1, q2, q3, _, _, _, _⟩ := (B4.put4 (.int .i64 ka) (.string ta) (.int .i64 na) (.int .i64 0)).four8
  refine bodyPost_ret (v := .tuple #[.agg #[.int .i64 ka, .string ta, .int .i64 na, .int .i64 0], .int .i64 la, ea]) (by simp [results, Tryz.results96, go_sem, q0, q1, q2, q3]) rfl ⟨by rw [unhide H, unhide HF], ?_⟩
  exact below4 (((((unhide HBB).trans (hb1.mono (by omega))).trans (hb2.mono (by have := hb1.size; omega))).trans (hb3.mono (by have := hb1.size; have := hb2.size; omega))).trans (hb9.mono (by have := hb1.size; have := hb2.size; have := hb3.size; omega))) (Nat.le_refl _) _ _ _ _

set_option maxRecDepth 100000 in
set_option maxHeartbeats 2000000 in
theorem first23_sign (s : ByteArray) (w : World) (hV : Vars w) (hsz : 0 < s.size) (h1 : inB 97 122 s[0].toNat = false) (h2 : inB 65 90 s[0].toNat = false) (h3 : isNumL s.data.toList = false) (h4 : ¬ s[0].toNat = 34) :
    Calls Tryz.prog 96 #[.string s] w fun e w' => e = .returned (encR (firstW s.data.toList)) ∧ Below w.heap.size w w' := by
  have hz := hV.size
  have hz1 : 1 < w.heap.size := by omega
  have hz2 : 2 < w.heap.size := by omega
  have hg : s.data.toList.head? = some s[0] := by
    rw [List.head?_eq_getElem?, List.getElem?_eq_getElem (by rw [Array.length_toList]; exact hsz)]; rfl
  have hmx : Tryz.prog.follows .mixedOrders = true := by kernel_rfl
  obtain ⟨W0, hW0⟩ : ∃ W0, W0 = w.alloc (.cells #[.int .i64 0, .string ⟨#[]⟩, .int .i64 0, .int .i64 0] 74) := ⟨_, rfl⟩
  have b0 : Box W0 w.heap.size 74 w0 := by rw [hW0]; exact Box.new w 74 w0
  have bb0 : Below w.heap.size w W0 := by rw [hW0]; exact (Below.refl _ _).alloc (Nat.le_refl _) _
  have sz0 : W0.heap.size = w.heap.size + 1 := by rw [hW0]; simp
  have hV0 : Vars W0 := hV.on bb0 hz
  have HW := hide hW0
  have HB := hide b0
  have HBB := hide bb0
  clear hW0 b0
  have e10 := cell_regrown hV0.s0
  have e11 := cell_regrown hV0.s1
  have H := hide (show firstW s.data.toList = signW s.data.toList from firstW_sign _ _ hg h1 h2 h3 h4)
  obtain ⟨ka, ta, na, la, ea, hf⟩ := encR_form (signW s.data.toList)
  have HF := hide hf
  have HC1 := hide (show ∀ W, Calls Tryz.prog 118 #[.agg #[.int .u8 97, .int .u8 122], .int .u8 s[0].toNat] W fun e w' => e = .returned (.bool false) ∧ Below W.heap.size W w' from fun W => by have := has31_c 97 122 s[0].toNat W; rwa [h1] at this)
  have HC2 := hide (show ∀ W, Calls Tryz.prog 118 #[.agg #[.int .u8 65, .int .u8 90], .int .u8 s[0].toNat] W fun e w' => e = .returned (.bool false) ∧ Below W.heap.size W w' from fun W => by have := has31_c 65 90 s[0].toNat W; rwa [h2] at this)
  have h34 : ((s[0].toNat : Int) == 34) = false := by simp; omega
  have Hn := hide h3
  clear hg hf h1 h2 h3 h4
  go_enter Tryz.func96, Tryz.ntmps96
  go_wp2
  rw [← unhide HW]
  refine wp_region_quiet_below (by assumption) (by kernel_rfl) ?_
  repeat (quiet_step (first | (go_at_call 118; exact Calls.regrown_of (unhide HC1 _))))
  refine wpQuiet_nil ?_
  intro _ hw'
  obtain ⟨⟨dq, osq⟩, hw''⟩ := hw'
  subst hw''
  have hb1 := below_regrown W0 dq osq
  generalize Sort.grow (redrawn W0 dq) osq = W1 at hb1 ⊢
  have hV1 : Vars W1 := hV0.on hb1 (by have := hV0.size; omega)
  have e20 := cell_regrown hV1.g0
  have e21 := cell_regrown hV1.g1
  go_wp2
  refine wp_region_quiet_below (by assumption) (by kernel_rfl) ?_
  repeat (quiet_step (first | (go_at_call 118; exact Calls.regrown_of (unhide HC2 _))))
  refine wpQuiet_nil ?_
  intro _ hw'
  obtain ⟨⟨dq, osq⟩, hw''⟩ := hw'
  subst hw''
  have hb2 := below_regrown W1 dq osq
  generalize Sort.grow (redrawn W1 dq) osq = W2 at hb2 ⊢
  have hV2 : Vars W2 := hV1.on hb2 (by have := hV1.size; omega)
  go_wp2_with (first
    | (go_at_call 121; refine (isNum34_c _ _ hV2).mono ?_; rintro e W3 ⟨rfl, hb3⟩; rw [unhide Hn]; have hV3 : Vars W3 := hV2.on hb3 hV2.size)
    | (go_at_call 124; refine (sign37_c _ _ hV3).mono ?_; rintro e W9 ⟨rfl, hb9⟩; rw [unhide HF]; have B4 := (((((unhide HB).on hb1 (by omega)).on hb2 (by have := hb1.size; omega)).on hb3 (by have := hb1.size; have := hb2.size; omega)).on hb9 (by have := hb1.size; have := hb2.size; have := hb3.size; omega)); obtain ⟨c0, c1, c2, c3, f0, f1, f2, f3⟩ := Box.four8 B4))
  obtain ⟨q0, q1, q2, q3, _, _, _, _⟩ := (B4.put4 (.int .i64 ka) (.string ta) (.int .i64 na) (.int .i64 0)).four8
  refine bodyPost_ret (v := .tuple #[.agg #[.int .i64 ka, .string ta, .int .i64 na, .int .i64 0], .int .i64 la, ea]) (by simp [results, Tryz.results96, go_sem, q0, q1, q2, q3]) rfl ⟨by rw [unhide H, unhide HF], ?_⟩
  exact below4 (((((unhide HBB).trans (hb1.mono (by omega))).trans (hb2.mono (by have := hb1.size; omega))).trans (hb3.mono (by have := hb1.size; have := hb2.size; omega))).trans (hb9.mono (by have := hb1.size; have := hb2.size; have := hb3.size; omega))) (Nat.le_refl _) _ _ _ _

theorem first23_c (s : ByteArray) (w : World) (hV : Vars w) (hs : s.size ≤ 281474976710656) (hsz : 0 < s.size) :
    Calls Tryz.prog 96 #[.string s] w fun e w' => e = .returned (encR (firstW s.data.toList)) ∧ Below w.heap.size w w' := by
  cases h1 : inB 97 122 s[0].toNat
  · cases h2 : inB 65 90 s[0].toNat
    · cases h3 : isNumL s.data.toList
      · by_cases h4 : s[0].toNat = 34
        · exact first23_text s w hV hs hsz h1 h2 h3 h4
        · exact first23_sign s w hV hsz h1 h2 h3 h4
      · exact first23_num s w hV hs hsz h1 h2 h3
    · exact first23_great s w hV hs hsz h1 h2
  · exact first23_name s w hV hs hsz h1

end Go.Proofs.YtmhpakhnclkenaaGreatDoor
