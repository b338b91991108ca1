/-
  What first of package word tells: for every text that holds a byte, in whatever world in which the package variables stand; nothing that lay is turned.
-/
import Derived.Test.YtgfaaeloppdkkaaDoorWText
import Derived.Test.YtgfaaeloppdkkaaDoorWNum
import Derived.Test.YtgfaaeloppdkkaaDoorWSign
namespace Go.Proofs.YtgfaaeloppdkkaaDoor
open Go.RowKit Go.Shelf

theorem encR_form (r : Wd) : ∃ k t n len ev, encR r = .tuple #[.agg #[.int .i64 k, .string t, .int .i64 n, .int .i64 0], .int .i64 len, ev] := by
  cases r with
  | word k t n len => exact ⟨k, _, n, len, _, rfl⟩
  | bad e => exact ⟨0, _, 0, 0, _, rfl⟩

theorem firstW_name (l : List UInt8) (c : UInt8) (hc : l.head? = some c) (h : inB 97 122 c.toNat = true) : firstW l = nameW l := by
  cases l with
  | nil => cases hc
  | cons d r => cases hc; simp [firstW, h]
theorem firstW_great (l : List UInt8) (c : UInt8) (hc : l.head? = some c) (h : inB 97 122 c.toNat = false) (h2 : inB 65 90 c.toNat = true) : firstW l = greatW l := by
  cases l with
  | nil => cases hc
  | cons d r => cases hc; simp [firstW, h, h2]
theorem firstW_num (l : List UInt8) (c : UInt8) (hc : l.head? = some c) (h : inB 97 122 c.toNat = false) (h2 : inB 65 90 c.toNat = false) (h3 : isNumL l = true) : firstW l = numW l := by
  cases l with
  | nil => cases hc
  | cons d r => cases hc; simp [firstW, h, h2, h3]
theorem firstW_text (l : List UInt8) (c : UInt8) (hc : l.head? = some c) (h : inB 97 122 c.toNat = false) (h2 : inB 65 90 c.toNat = false) (h3 : isNumL l = false) (h4 : c.toNat = 34) : firstW l = textW l := by
  cases l with
  | nil => cases hc
  | cons d r => cases hc; show (if inB 97 122 c.toNat = true then nameW (c :: r) else if inB 65 90 c.toNat = true then greatW (c :: r) else if isNumL (c :: r) = true then numW (c :: r) else if c.toNat = 34 then textW (c :: r) else signW (c :: r)) = _; rw [if_neg (by rw [h]; decide), if_neg (by rw [h2]; decide), if_neg (by rw [h3]; decide), if_pos h4]
theorem firstW_sign (l : List UInt8) (c : UInt8) (hc : l.head? = some c) (h : inB 97 122 c.toNat = false) (h2 : inB 65 90 c.toNat = false) (h3 : isNumL l = false) (h4 : ¬ c.toNat = 34) : firstW l = signW l := by
  cases l with
  | nil => cases hc
  | cons d r => cases hc; simp [firstW, h, h2, h3, h4]

set_option maxRecDepth 100000 in
set_option maxHeartbeats 2000000 in
theorem first23_name (s : ByteArray) (w : World) (hV : Vars w) (hs : s.size ≤ 281474976710656) (hsz : 0 < s.size) (h1 : inB 97 122 s[0].toNat = true) :
    Calls Tryd.prog 23 #[.string s] w fun e w' => e = .returned (encR (firstW s.data.toList)) ∧ Below w.heap.size w w' := by
  have hz := hV.size
  have hz1 : 1 < w.heap.size := by omega
  have hz2 : 2 < w.heap.size := by omega
  have hg : s.data.toList.head? = some s[0] := by
    rw [List.head?_eq_getElem?, List.getElem?_eq_getElem (by rw [Array.length_toList]; exact hsz)]; rfl
  have hmx : Tryd.prog.follows .mixedOrders = true := by kernel_rfl
  obtain ⟨W0, hW0⟩ : ∃ W0, W0 = w.alloc (.cells #[.int .i64 0, .string ⟨#[]⟩, .int .i64 0, .int .i64 0] 32) := ⟨_, rfl⟩
  have b0 : Box W0 w.heap.size 32 w0 := by rw [hW0]; exact Box.new w 32 w0
  have bb0 : Below w.heap.size w W0 := by rw [hW0]; exact (Below.refl _ _).alloc (Nat.le_refl _) _
  have sz0 : W0.heap.size = w.heap.size + 1 := by rw [hW0]; simp
  have hV0 : Vars W0 := hV.on bb0 hz
  have HW := hide hW0
  have HB := hide b0
  have HBB := hide bb0
  clear hW0 b0
  have e10 := cell_regrown hV0.s0
  have e11 := cell_regrown hV0.s1
  have hlead : 1 ≤ (leadL 97 122 s.data.toList).length := by
    cases h : s.data.toList with
    | nil => rw [h] at hg; cases hg
    | cons d r => rw [h] at hg; cases hg; exact leadL_pos h1
  have H := hide (show firstW s.data.toList = nameW s.data.toList from firstW_name _ _ hg h1)
  obtain ⟨ka, ta, na, la, ea, hf⟩ := encR_form (nameW s.data.toList)
  have HF := hide hf
  have HC1 := hide (show ∀ W, Calls Tryd.prog 31 #[.agg #[.int .u8 97, .int .u8 122], .int .u8 s[0].toNat] W fun e w' => e = .returned (.bool true) ∧ Below W.heap.size W w' from fun W => by have := has31_c 97 122 s[0].toNat W; rwa [h1] at this)
  clear hg hf h1
  go_enter Tryd.func23, Tryd.ntmps23
  go_wp2
  rw [← unhide HW]
  refine wp_region_quiet_below (by assumption) (by kernel_rfl) ?_
  repeat (quiet_step (first | (go_at_call 31; exact Calls.regrown_of (unhide HC1 _))))
  refine wpQuiet_nil ?_
  intro _ hw'
  obtain ⟨⟨dq, osq⟩, hw''⟩ := hw'
  subst hw''
  have hb1 := below_regrown W0 dq osq
  generalize Sort.grow (redrawn W0 dq) osq = W1 at hb1 ⊢
  have hV1 : Vars W1 := hV0.on hb1 (by have := hV0.size; omega)
  go_wp2_with (first
    | (go_at_call 32; refine (name32_c _ _ hV1 hs hlead).mono ?_; rintro e W9 ⟨rfl, hb9⟩; rw [unhide HF]; have B4 := (((unhide HB).on hb1 (by omega)).on hb9 (by have := hb1.size; omega)); obtain ⟨c0, c1, c2, c3, f0, f1, f2, f3⟩ := Box.four B4))
  obtain ⟨q0, q1, q2, q3, _, _, _, _⟩ := (B4.put4 (.int .i64 ka) (.string ta) (.int .i64 na) (.int .i64 0)).four
  refine bodyPost_ret (v := .tuple #[.agg #[.int .i64 ka, .string ta, .int .i64 na, .int .i64 0], .int .i64 la, ea]) (by simp [results, Tryd.results23, go_sem, q0, q1, q2, q3]) rfl ⟨by rw [unhide H, unhide HF], ?_⟩
  exact below4 (((unhide HBB).trans (hb1.mono (by omega))).trans (hb9.mono (by have := hb1.size; omega))) (Nat.le_refl _) _ _ _ _

set_option maxRecDepth 100000 in
set_option maxHeartbeats 2000000 in
theorem first23_great (s : ByteArray) (w : World) (hV : Vars w) (hs : s.size ≤ 281474976710656) (hsz : 0 < s.size) (h1 : inB 97 122 s[0].toNat = false) (h2 : inB 65 90 s[0].toNat = true) :
    Calls Tryd.prog 23 #[.string s] w fun e w' => e = .returned (encR (firstW s.data.toList)) ∧ Below w.heap.size w w' := by
  have hz := hV.size
  have hz1 : 1 < w.heap.size := by omega
  have hz2 : 2 < w.heap.size := by omega
  have hg : s.data.toList.head? = some s[0] := by
    rw [List.head?_eq_getElem?, List.getElem?_eq_getElem (by rw [Array.length_toList]; exact hsz)]; rfl
  have hmx : Tryd.prog.follows .mixedOrders = true := by kernel_rfl
  obtain ⟨W0, hW0⟩ : ∃ W0, W0 = w.alloc (.cells #[.int .i64 0, .string ⟨#[]⟩, .int .i64 0, .int .i64 0] 32) := ⟨_, rfl⟩
  have b0 : Box W0 w.heap.size 32 w0 := by rw [hW0]; exact Box.new w 32 w0
  have bb0 : Below w.heap.size w W0 := by rw [hW0]; exact (Below.refl _ _).alloc (Nat.le_refl _) _
  have sz0 : W0.heap.size = w.heap.size + 1 := by rw [hW0]; simp
  have hV0 : Vars W0 := hV.on bb0 hz
  have HW := hide hW0
  have HB := hide b0
  have HBB := hide bb0
  clear hW0 b0
  have e10 := cell_regrown hV0.s0
  have e11 := cell_regrown hV0.s1
  have H := hide (show firstW s.data.toList = greatW s.data.toList from firstW_great _ _ hg h1 h2)
  obtain ⟨ka, ta, na, la, ea, hf⟩ := encR_form (greatW s.data.toList)
  have HF := hide hf
  have HC1 := hide (show ∀ W, Calls Tryd.prog 31 #[.agg #[.int .u8 97, .int .u8 122], .int .u8 s[0].toNat] W fun e w' => e = .returned (.bool false) ∧ Below W.heap.size W w' from fun W => by have := has31_c 97 122 s[0].toNat W; rwa [h1] at this)
  have HC2 := hide (show ∀ W, Calls Tryd.prog 31 #[.agg #[.int .u8 65, .int .u8 90], .int .u8 s[0].toNat] W fun e w' => e = .returned (.bool true) ∧ Below W.heap.size W w' from fun W => by have := has31_c 65 90 s[0].toNat W; rwa [h2] at this)
  clear hg hf h1 h2
  go_enter Tryd.func23, Tryd.ntmps23
  go_wp2
  rw [← unhide HW]
  refine wp_region_quiet_below (by assumption) (by kernel_rfl) ?_
  repeat (quiet_step (first | (go_at_call 31; exact Calls.regrown_of (unhide HC1 _))))
  refine wpQuiet_nil ?_
  intro _ hw'
  obtain ⟨⟨dq, osq⟩, hw''⟩ := hw'
  subst hw''
  have hb1 := below_regrown W0 dq osq
  generalize Sort.grow (redrawn W0 dq) osq = W1 at hb1 ⊢
  have hV1 : Vars W1 := hV0.on hb1 (by have := hV0.size; omega)
  have e20 := cell_regrown hV1.g0
  have e21 := cell_regrown hV1.g1
  go_wp2
  refine wp_region_quiet_below (by assumption) (by kernel_rfl) ?_
  repeat (quiet_step (first | (go_at_call 31; exact Calls.regrown_of (unhide HC2 _))))
  refine wpQuiet_nil ?_
  intro _ hw'
  obtain ⟨⟨dq, osq⟩, hw''⟩ := hw'
  subst hw''
  have hb2 := below_regrown W1 dq osq
  generalize Sort.grow (redrawn W1 dq) osq = W2 at hb2 ⊢
  have hV2 : Vars W2 := hV1.on hb2 (by have := hV1.size; omega)
  go_wp2_with (first
    | (go_at_call 33; refine (great33_c _ _ hV2 hs).mono ?_; rintro e W9 ⟨rfl, hb9⟩; rw [unhide HF]; have B4 := ((((unhide HB).on hb1 (by omega)).on hb2 (by have := hb1.size; omega)).on hb9 (by have := hb1.size; have := hb2.size; omega)); obtain ⟨c0, c1, c2, c3, f0, f1, f2, f3⟩ := Box.four B4))
  obtain ⟨q0, q1, q2, q3, _, _, _, _⟩ := (B4.put4 (.int .i64 ka) (.string ta) (.int .i64 na) (.int .i64 0)).four
  refine bodyPost_ret (v := .tuple #[.agg #[.int .i64 ka, .string ta, .int .i64 na, .int .i64 0], .int .i64 la, ea]) (by simp [results, Tryd.results23, go_sem, q0, q1, q2, q3]) rfl ⟨by rw [unhide H, unhide HF], ?_⟩
  exact below4 ((((unhide HBB).trans (hb1.mono (by omega))).trans (hb2.mono (by have := hb1.size; omega))).trans (hb9.mono (by have := hb1.size; have := hb2.size; omega))) (Nat.le_refl _) _ _ _ _

set_option maxRecDepth 100000 in
set_option maxHeartbeats 2000000 in
theorem first23_num (s : ByteArray) (w : World) (hV : Vars w) (hs : s.size ≤ 281474976710656) (hsz : 0 < s.size) (h1 : inB 97 122 s[0].toNat = false) (h2 : inB 65 90 s[0].toNat = false) (h3 : isNumL s.data.toList = true) :
    Calls Tryd.prog 23 #[.string s] w fun e w' => e = .returned (encR (firstW s.data.toList)) ∧ Below w.heap.size w w' := by
  have hz := hV.size
  have hz1 : 1 < w.heap.size := by omega
  have hz2 : 2 < w.heap.size := by omega
  have hg : s.data.toList.head? = some s[0] := by
    rw [List.head?_eq_getElem?, List.getElem?_eq_getElem (by rw [Array.length_toList]; exact hsz)]; rfl
  have hmx : Tryd.prog.follows .mixedOrders = true := by kernel_rfl
  obtain ⟨W0, hW0⟩ : ∃ W0, W0 = w.alloc (.cells #[.int .i64 0, .string ⟨#[]⟩, .int .i64 0, .int .i64 0] 32) := ⟨_, rfl⟩
  have b0 : Box W0 w.heap.size 32 w0 := by rw [hW0]; exact Box.new w 32 w0
  have bb0 : Below w.heap.size w W0 := by rw [hW0]; exact (Below.refl _ _).alloc (Nat.le_refl _) _
  have sz0 : W0.heap.size = w.heap.size + 1 := by rw [hW0]; simp
  have hV0 : Vars W0 := hV.on bb0 hz
  have HW := hide hW0
  have HB := hide b0
  have HBB := hide bb0
  clear hW0 b0
  have e10 := cell_regrown hV0.s0
  have e11 := cell_regrown hV0.s1
  have H := hide (show firstW s.data.toList = numW s.data.toList from firstW_num _ _ hg h1 h2 h3)
  obtain ⟨ka, ta, na, la, ea, hf⟩ := encR_form (numW s.data.toList)
  have HF := hide hf
  have HC1 := hide (show ∀ W, Calls Tryd.prog 31 #[.agg #[.int .u8 97, .int .u8 122], .int .u8 s[0].toNat] W fun e w' => e = .returned (.bool false) ∧ Below W.heap.size W w' from fun W => by have := has31_c 97 122 s[0].toNat W; rwa [h1] at this)
  have HC2 := hide (show ∀ W, Calls Tryd.prog 31 #[.agg #[.int .u8 65, .int .u8 90], .int .u8 s[0].toNat] W fun e w' => e = .returned (.bool false) ∧ Below W.heap.size W w' from fun W => by have := has31_c 65 90 s[0].toNat W; rwa [h2] at this)
  have Hn := hide h3
  clear hg hf h1 h2
  go_enter Tryd.func23, Tryd.ntmps23
  go_wp2
  rw [← unhide HW]
  refine wp_region_quiet_below (by assumption) (by kernel_rfl) ?_
  repeat (quiet_step (first | (go_at_call 31; exact Calls.regrown_of (unhide HC1 _))))
  refine wpQuiet_nil ?_
  intro _ hw'
  obtain ⟨⟨dq, osq⟩, hw''⟩ := hw'
  subst hw''
  have hb1 := below_regrown W0 dq osq
  generalize Sort.grow (redrawn W0 dq) osq = W1 at hb1 ⊢
  have hV1 : Vars W1 := hV0.on hb1 (by have := hV0.size; omega)
  have e20 := cell_regrown hV1.g0
  have e21 := cell_regrown hV1.g1
  go_wp2
  refine wp_region_quiet_below (by assumption) (by kernel_rfl) ?_
  repeat (quiet_step (first | (go_at_call 31; exact Calls.regrown_of (unhide HC2 _))))
  refine wpQuiet_nil ?_
  intro _ hw'
  obtain ⟨⟨dq, osq⟩, hw''⟩ := hw'
  subst hw''
  have hb2 := below_regrown W1 dq osq
  generalize Sort.grow (redrawn W1 dq) osq = W2 at hb2 ⊢
  have hV2 : Vars W2 := hV1.on hb2 (by have := hV1.size; omega)
  go_wp2_with (first
    | (go_at_call 34; refine (isNum34_c _ _ hV2).mono ?_; rintro e W3 ⟨rfl, hb3⟩; rw [unhide Hn]; have hV3 : Vars W3 := hV2.on hb3 hV2.size)
    | (go_at_call 35; refine (number35_c _ _ hV3 hs (unhide Hn)).mono ?_; rintro e W9 ⟨rfl, hb9⟩; rw [unhide HF]; have B4 := (((((unhide HB).on hb1 (by omega)).on hb2 (by have := hb1.size; omega)).on hb3 (by have := hb1.size; have := hb2.size; omega)).on hb9 (by have := hb1.size; have := hb2.size; have := hb3.size; omega)); obtain ⟨c0, c1, c2, c3, f0, f1, f2, f3⟩ := Box.four B4))
  obtain ⟨q0, q1, q2, q3, _, _, _, _⟩ := (B4.put4 (.int .i64 ka) (.string ta) (.int .i64 na) (.int .i64 0)).four
  refine bodyPost_ret (v := .tuple #[.agg #[.int .i64 ka, .string ta, .int .i64 na, .int .i64 0], .int .i64 la, ea]) (by simp [results, Tryd.results23, go_sem, q0, q1, q2, q3]) rfl ⟨by rw [unhide H, unhide HF], ?_⟩
  exact below4 (((((unhide HBB).trans (hb1.mono (by omega))).trans (hb2.mono (by have := hb1.size; omega))).trans (hb3.mono (by have := hb1.size; have := hb2.size; omega))).trans (hb9.mono (by have := hb1.size; have := hb2.size; have := hb3.size; omega))) (Nat.le_refl _) _ _ _ _

set_option maxRecDepth 100000 in
set_option maxHeartbeats 2000000 in
theorem first23_text (s : ByteArray) (w : World) (hV : Vars w) (hs : s.size ≤ 281474976710656) (hsz : 0 < s.size) (h1 : inB 97 122 s[0].toNat = false) (h2 : inB 65 90 s[0].toNat = false) (h3 : isNumL s.data.toList = false) (h4 : s[0].toNat = 34) :
    Calls Tryd.prog 23 #[.string s] w fun e w' => e = .returned (encR (firstW s.data.toList)) ∧ Below w.heap.size w w' := by
  have hz := hV.size
  have hz1 : 1 < w.heap.size := by omega
  have hz2 : 2 < w.heap.size := by omega
  have hg : s.data.toList.head? = some s[0] := by
    rw [List.head?_eq_getElem?, List.getElem?_eq_getElem (by rw [Array.length_toList]; exact hsz)]; rfl
  have hmx : Tryd.prog.follows .mixedOrders = true := by kernel_rfl
  obtain ⟨W0, hW0⟩ : ∃ W0, W0 = w.alloc (.cells #[.int .i64 0, .string ⟨#[]⟩, .int .i64 0, .int .i64 0] 32) := ⟨_, rfl⟩
  have b0 : Box W0 w.heap.size 32 w0 := by rw [hW0]; exact Box.new w 32 w0
  have bb0 : Below w.heap.size w W0 := by rw [hW0]; exact (Below.refl _ _).alloc (Nat.le_refl _) _
  have sz0 : W0.heap.size = w.heap.size + 1 := by rw [hW0]; simp
  have hV0 : Vars W0 := hV.on bb0 hz
  have HW := hide hW0
  have HB := hide b0
  have HBB := hide bb0
  clear hW0 b0
  have e10 := cell_regrown hV0.s0
  have e11 := cell_regrown hV0.s1
  have H := hide (show firstW s.data.toList = textW s.data.toList from firstW_text _ _ hg h1 h2 h3 h4)
  obtain ⟨ka, ta, na, la, ea, hf⟩ := encR_form (textW s.data.toList)
  have HF := hide hf
  have HC1 := hide (show ∀ W, Calls Tryd.prog 31 #[.agg #[.int .u8 97, .int .u8 122], .int .u8 s[0].toNat] W fun e w' => e = .returned (.bool false) ∧ Below W.heap.size W w' from fun W => by have := has31_c 97 122 s[0].toNat W; rwa [h1] at this)
  have HC2 := hide (show ∀ W, Calls Tryd.prog 31 #[.agg #[.int .u8 65, .int .u8 90], .int .u8 s[0].toNat] W fun e w' => e = .returned (.bool false) ∧ Below W.heap.size W w' from fun W => by have := has31_c 65 90 s[0].toNat W; rwa [h2] at this)
  have h34 : ((s[0].toNat : Int) == 34) = true := by simp [h4]
  have Hn := hide h3
  clear hg hf h1 h2 h3 h4
  go_enter Tryd.func23, Tryd.ntmps23
  go_wp2
  rw [← unhide HW]
  refine wp_region_quiet_below (by assumption) (by kernel_rfl) ?_
  repeat (quiet_step (first | (go_at_call 31; exact Calls.regrown_of (unhide HC1 _))))
  refine wpQuiet_nil ?_
  intro _ hw'
  obtain ⟨⟨dq, osq⟩, hw''⟩ := hw'
  subst hw''
  have hb1 := below_regrown W0 dq osq
  generalize Sort.grow (redrawn W0 dq) osq = W1 at hb1 ⊢
  have hV1 : Vars W1 := hV0.on hb1 (by have := hV0.size; omega)
  have e20 := cell_regrown hV1.g0
  have e21 := cell_regrown hV1.g1
  go_wp2
  refine wp_region_quiet_below (by assumption) (by kernel_rfl) ?_
  repeat (quiet_step (first | (go_at_call 31; exact Calls.regrown_of (unhide HC2 _))))
  refine wpQuiet_nil ?_
  intro _ hw'
  obtain ⟨⟨dq, osq⟩, hw''⟩ := hw'
  subst hw''
  have hb2 := below_regrown W1 dq osq
  generalize Sort.grow (redrawn W1 dq) osq = W2 at hb2 ⊢
  have hV2 : Vars W2 := hV1.on hb2 (by have := hV1.size; omega)
  go_wp2_with (first
    | (go_at_call 34; refine (isNum34_c _ _ hV2).mono ?_; rintro e W3 ⟨rfl, hb3⟩; rw [unhide Hn]; have hV3 : Vars W3 := hV2.on hb3 hV2.size)
    | (go_at_call 36; refine (text36_c _ _ hV3 hs).mono ?_; rintro e W9 ⟨rfl, hb9⟩; rw [unhide HF]; have B4 := (((((unhide HB).on hb1 (by omega)).on hb2 (by have := hb1.size; omega)).on hb3 (by have := hb1.size; have := hb2.size; omega)).on hb9 (by have := hb1.size; have := hb2.size; have := hb3.size; omega)); obtain ⟨c0, c1, c2, c3, f0, f1, f2, f3⟩ := Box.four B4))
  obtain ⟨q0, q1, q2, q3, _, _, _, _⟩ := (B4.put4 (.int .i64 ka) (.string ta) (.int .i64 na) (.int .i64 0)).four
  refine bodyPost_ret (v := .tuple #[.agg #[.int .i64 ka, .string ta, .int .i64 na, .int .i64 0], .int .i64 la, ea]) (by simp [results, Tryd.results23, go_sem, q0, q1, q2, q3]) rfl ⟨by rw [unhide H, unhide HF], ?_⟩
  exact below4 (((((unhide HBB).trans (hb1.mono (by omega))).trans (hb2.mono (by have := hb1.size; omega))).trans (hb3.mono (by have := hb1.size; have := hb2.size; omega))).trans (hb9.mono (by have := hb1.size; have := hb2.size; have := hb3.size; omega))) (Nat.le_refl _) _ _ _ _

set_option maxRecDepth 100000 in
set_option maxHeartbeats 2000000 in
theorem first23_sign (s : ByteArray) (w : World) (hV : Vars w) (hsz : 0 < s.size) (h1 : inB 97 122 s[0].toNat = false) (h2 : inB 65 90 s[0].toNat = false) (h3 : isNumL s.data.toList = false) (h4 : ¬ s[0].toNat = 34) :
    Calls Tryd.prog 23 #[.string s] w fun e w' => e = .returned (encR (firstW s.data.toList)) ∧ Below w.heap.size w w' := by
  have hz := hV.size
  have hz1 : 1 < w.heap.size := by omega
  have hz2 : 2 < w.heap.size := by omega
  have hg : s.data.toList.head? = some s[0] := by
    rw [List.head?_eq_getElem?, List.getElem?_eq_getElem (by rw [Array.length_toList]; exact hsz)]; rfl
  have hmx : Tryd.prog.follows .mixedOrders = true := by kernel_rfl
  obtain ⟨W0, hW0⟩ : ∃ W0, W0 = w.alloc (.cells #[.int .i64 0, .string ⟨#[]⟩, .int .i64 0, .int .i64 0] 32) := ⟨_, rfl⟩
  have b0 : Box W0 w.heap.size 32 w0 := by rw [hW0]; exact Box.new w 32 w0
  have bb0 : Below w.heap.size w W0 := by rw [hW0]; exact (Below.refl _ _).alloc (Nat.le_refl _) _
  have sz0 : W0.heap.size = w.heap.size + 1 := by rw [hW0]; simp
  have hV0 : Vars W0 := hV.on bb0 hz
  have HW := hide hW0
  have HB := hide b0
  have HBB := hide bb0
  clear hW0 b0
  have e10 := cell_regrown hV0.s0
  have e11 := cell_regrown hV0.s1
  have H := hide (show firstW s.data.toList = signW s.data.toList from firstW_sign _ _ hg h1 h2 h3 h4)
  obtain ⟨ka, ta, na, la, ea, hf⟩ := encR_form (signW s.data.toList)
  have HF := hide hf
  have HC1 := hide (show ∀ W, Calls Tryd.prog 31 #[.agg #[.int .u8 97, .int .u8 122], .int .u8 s[0].toNat] W fun e w' => e = .returned (.bool false) ∧ Below W.heap.size W w' from fun W => by have := has31_c 97 122 s[0].toNat W; rwa [h1] at this)
  have HC2 := hide (show ∀ W, Calls Tryd.prog 31 #[.agg #[.int .u8 65, .int .u8 90], .int .u8 s[0].toNat] W fun e w' => e = .returned (.bool false) ∧ Below W.heap.size W w' from fun W => by have := has31_c 65 90 s[0].toNat W; rwa [h2] at this)
  have h34 : ((s[0].toNat : Int) == 34) = false := by simp; omega
  have Hn := hide h3
  clear hg hf h1 h2 h3 h4
  go_enter Tryd.func23, Tryd.ntmps23
  go_wp2
  rw [← unhide HW]
  refine wp_region_quiet_below (by assumption) (by kernel_rfl) ?_
  repeat (quiet_step (first | (go_at_call 31; exact Calls.regrown_of (unhide HC1 _))))
  refine wpQuiet_nil ?_
  intro _ hw'
  obtain ⟨⟨dq, osq⟩, hw''⟩ := hw'
  subst hw''
  have hb1 := below_regrown W0 dq osq
  generalize Sort.grow (redrawn W0 dq) osq = W1 at hb1 ⊢
  have hV1 : Vars W1 := hV0.on hb1 (by have := hV0.size; omega)
  have e20 := cell_regrown hV1.g0
  have e21 := cell_regrown hV1.g1
  go_wp2
  refine wp_region_quiet_below (by assumption) (by kernel_rfl) ?_
  repeat (quiet_step (first | (go_at_call 31; exact Calls.regrown_of (unhide HC2 _))))
  refine wpQuiet_nil ?_
  intro _ hw'
  obtain ⟨⟨dq, osq⟩, hw''⟩ := hw'
  subst hw''
  have hb2 := below_regrown W1 dq osq
  generalize Sort.grow (redrawn W1 dq) osq = W2 at hb2 ⊢
  have hV2 : Vars W2 := hV1.on hb2 (by have := hV1.size; omega)
  go_wp2_with (first
    | (go_at_call 34; refine (isNum34_c _ _ hV2).mono ?_; rintro e W3 ⟨rfl, hb3⟩; rw [unhide Hn]; have hV3 : Vars W3 := hV2.on hb3 hV2.size)
    | (go_at_call 37; refine (sign37_c _ _ hV3).mono ?_; rintro e W9 ⟨rfl, hb9⟩; rw [unhide HF]; have B4 := (((((unhide HB).on hb1 (by omega)).on hb2 (by have := hb1.size; omega)).on hb3 (by have := hb1.size; have := hb2.size; omega)).on hb9 (by have := hb1.size; have := hb2.size; have := hb3.size; omega)); obtain ⟨c0, c1, c2, c3, f0, f1, f2, f3⟩ := Box.four B4))
  obtain ⟨q0, q1, q2, q3, _, _, _, _⟩ := (B4.put4 (.int .i64 ka) (.string ta) (.int .i64 na) (.int .i64 0)).four
  refine bodyPost_ret (v := .tuple #[.agg #[.int .i64 ka, .string ta, .int .i64 na, .int .i64 0], .int .i64 la, ea]) (by simp [results, Tryd.results23, go_sem, q0, q1, q2, q3]) rfl ⟨by rw [unhide H, unhide HF], ?_⟩
  exact below4 (((((unhide HBB).trans (hb1.mono (by omega))).trans (hb2.mono (by have := hb1.size; omega))).trans (hb3.mono (by have := hb1.size; have := hb2.size; omega))).trans (hb9.mono (by have := hb1.size; have := hb2.size; have := hb3.size; omega))) (Nat.le_refl _) _ _ _ _

theorem first23_c (s : ByteArray) (w : World) (hV : Vars w) (hs : s.size ≤ 281474976710656) (hsz : 0 < s.size) :
    Calls Tryd.prog 23 #[.string s] w fun e w' => e = .returned (encR (firstW s.data.toList)) ∧ Below w.heap.size w w' := by
  cases h1 : inB 97 122 s[0].toNat
  · cases h2 : inB 65 90 s[0].toNat
    · cases h3 : isNumL s.data.toList
      · by_cases h4 : s[0].toNat = 34
        · exact first23_text s w hV hs hsz h1 h2 h3 h4
        · exact first23_sign s w hV hsz h1 h2 h3 h4
      · exact first23_num s w hV hs hsz h1 h2 h3
    · exact first23_great s w hV hs hsz h1 h2
  · exact first23_name s w hV hs hsz h1

end Go.Proofs.YtgfaaeloppdkkaaDoor
