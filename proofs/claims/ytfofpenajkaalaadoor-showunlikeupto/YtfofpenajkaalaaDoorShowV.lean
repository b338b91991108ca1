/-
  What the document's ShowValue and sign answer: the text that the pieces of a value make.
-/
import Derived.Test.YtfofpenajkaalaaDoorRefSame
namespace Go.Proofs.YtfofpenajkaalaaDoor
open Go.RowKit Go.Shelf

/-- The text that pieces make. -/
def txtB (ps : List ByteArray) : ByteArray := ⟨(flatB ps).toArray⟩
theorem bytes_assoc (a b c : ByteArray) : (a ++ b) ++ c = a ++ (b ++ c) := eq_of_list (by simp)
theorem txtB_nil : txtB [] = ⟨#[]⟩ := rfl
theorem txtB_append (a b : List ByteArray) : txtB (a ++ b) = txtB a ++ txtB b := eq_of_list (by rw [append_list]; simp [txtB, flatB_append])
theorem txtB_one (x : ByteArray) : txtB [x] = x := eq_of_list (by simp [txtB, flatB])
theorem txtB_size (ps : List ByteArray) : (txtB ps).size = (flatB ps).length := List.size_toArray ..
theorem natL_dec (n : Nat) : natL n = Lib.decDigits n := by
  induction n using Nat.strongRecOn with
  | ind n ih =>
    by_cases h : n < 10
    · rw [natL_small h, Lib.decDigits, dif_pos h]; rfl
    · rw [natL_big h, Lib.decDigits, dif_neg h, ih (n / 10) (by omega)]; rfl
theorem decB_itoa (n : Int) : decB n = itoaB n := by
  unfold decB itoaB decL Lib.itoa
  by_cases h : n < 0
  · rw [if_pos h, if_pos h, natL_dec]
  · rw [if_neg h, if_neg h, natL_dec, show n.natAbs = n.toNat by omega]
theorem esc_size (l : List UInt8) : (flatB (escP l)).length ≤ 2 * l.length := by
  induction l with
  | nil => simp [escP, flatB]
  | cons c l ih =>
    have e : escP (c :: l) = escC c ++ escP l := by simp [escP]
    rw [e, flatB_append, List.length_append]
    have : (flatB (escC c)).length ≤ 2 := by unfold escC; split <;> simp [flatB]
    simp; omega

set_option maxRecDepth 100000 in
set_option maxHeartbeats 4000000 in
theorem showV_str (n : Int) (s : ByteArray) (hB : isB 2 n s = true) (hs : s.size ≤ 16) (w : World) :
    Calls Tryd.prog 9 #[.agg #[.int .i64 2, .int .i64 n, .string s]] w fun e w' => e = .returned (.string (txtB (litP 2 n s))) ∧ Below w.heap.size w w' := by
  obtain ⟨W0, hW0⟩ : ∃ W0, W0 = w.alloc (.cells #[.int .i64 2, .int .i64 n, .string s] 23) := ⟨_, rfl⟩
  have b0 : Below w.heap.size w W0 := by rw [hW0]; exact (Below.refl _ _).alloc (Nat.le_refl _) _
  have x0 : Box W0 w.heap.size 23 #[.int .i64 2, .int .i64 n, .string s] := by rw [hW0]; exact Box.new _ _ _
  have HT := hide (show txtB (litP 2 n s) = (⟨#[34]⟩ ++ txtB (escP s.data.toList)) ++ ⟨#[34]⟩ by
    show txtB ([quB] ++ escP s.data.toList ++ [quB]) = _
    rw [txtB_append, txtB_append, txtB_one])
  obtain ⟨c0, c1, c2⟩ := x0.three
  have cI := hide (refIs_c 2 n s W0 (by unfold maxLen; omega))
  rw [hB] at cI
  go_enter Tryd.func9, Tryd.ntmps9
  go_upto_region 1 with fail
  rw [← hW0]
  clear hW0
  go_wp2_with fail
  refine (unhide cI).mono ?_
  rintro e W1 ⟨rfl, hb1⟩
  have x1 := x0.on hb1 x0.lt
  have b1 := b0.trans (hb1.mono b0.size)
  clear c0 c1 c2 cI
  obtain ⟨c0, c1, c2⟩ := x1.three
  go_wp2_with fail
  go_loop [3, 4] (fun t i => ∃ j : Nat, j ≤ s.size ∧ i = .int .i64 j ∧ t = .string (txtB (escP (s.data.toList.take j)))) (fun _ i => s.size - (intOf i).toNat)
  case atStart => exact ⟨0, Nat.zero_le _, rfl, rfl⟩
  case round =>
    obtain ⟨j, hj, rfl, rfl⟩ := hrel
    by_cases hlt : j < s.size
    · have htk := hide (show txtB (escP (s.data.toList.take (j + 1))) = txtB (escP (s.data.toList.take j)) ++ txtB (escC s[j]) by rw [take_snoc s j hlt, escP_snoc, txtB_append])
      have hxs : (txtB (escP (s.data.toList.take j))).size ≤ 32 := by
        rw [txtB_size]
        refine Nat.le_trans (esc_size _) ?_
        rw [List.length_take]; omega
      have hext := hide (ext_one s j hlt)
      generalize txtB (escP (s.data.toList.take j)) = x at htk hxs ⊢
      have hz1 : (s.extract j (j + 1)).size = 1 := by rw [unhide hext]; rfl
      have hz2 : (x ++ (⟨#[92]⟩ : ByteArray)).size = x.size + 1 := by rw [ByteArray.size_append]; rfl
      by_cases h34 : s[j].toNat = 34
      · have hec := hide (show txtB (escC s[j]) = ⟨#[92]⟩ ++ ⟨#[s[j]]⟩ by unfold escC; rw [if_pos (.inl h34)]; rw [show [(⟨#[92]⟩ : ByteArray), ⟨#[s[j]]⟩] = [⟨#[92]⟩] ++ [⟨#[s[j]]⟩] from rfl, txtB_append, txtB_one, txtB_one])
        go_wp2_with fail
        exact ⟨⟨j + 1, by omega, by go_num, by rw [unhide htk, unhide hec, unhide hext, bytes_assoc]⟩, by simp [intOf]; omega⟩
      · have e34 : ((s[j].toNat : Int) == 34) = false := by simp; omega
        by_cases h92 : s[j].toNat = 92
        · have hec := hide (show txtB (escC s[j]) = ⟨#[92]⟩ ++ ⟨#[s[j]]⟩ by unfold escC; rw [if_pos (.inr h92)]; rw [show [(⟨#[92]⟩ : ByteArray), ⟨#[s[j]]⟩] = [⟨#[92]⟩] ++ [⟨#[s[j]]⟩] from rfl, txtB_append, txtB_one, txtB_one])
          clear h34
          go_wp2_with fail
          exact ⟨⟨j + 1, by omega, by go_num, by rw [unhide htk, unhide hec, unhide hext, bytes_assoc]⟩, by simp [intOf]; omega⟩
        · have e92 : ((s[j].toNat : Int) == 92) = false := by simp; omega
          have hec := hide (show txtB (escC s[j]) = ⟨#[s[j]]⟩ by unfold escC; rw [if_neg (by omega), txtB_one])
          clear h34 h92
          go_wp2_with fail
          exact ⟨⟨j + 1, by omega, by go_num, by rw [unhide htk, unhide hec, unhide hext]⟩, by simp [intOf]; omega⟩
    · obtain rfl : j = s.size := by omega
      rw [List.take_of_length_le (Nat.le_of_eq (show s.data.toList.length = s.size from Array.length_toList ..))]
      have hxs : (txtB (escP s.data.toList)).size ≤ 32 := by
        rw [txtB_size]
        refine Nat.le_trans (esc_size _) ?_
        rw [show s.data.toList.length = s.size from Array.length_toList ..]; omega
      generalize txtB (escP s.data.toList) = x at HT hxs ⊢
      have hz2 : ((⟨#[34]⟩ : ByteArray) ++ x).size = x.size + 1 := by rw [ByteArray.size_append]; show 1 + x.size = _; omega
      go_wp2_with fail
      go_ret
      exact ⟨by rw [unhide HT]; rfl, b1⟩

/-- The text of a value, as the document tells it. -/
def valB (k n : Int) (s : ByteArray) : ByteArray := if isB k n s then txtB (litP k n s) else ⟨#[]⟩
theorem valB_yes {k n : Int} {s : ByteArray} (h : isB k n s = true) : valB k n s = txtB (litP k n s) := by unfold valB; rw [if_pos h]
theorem valB_no {k n : Int} {s : ByteArray} (h : isB k n s = false) : valB k n s = ⟨#[]⟩ := by unfold valB; rw [h]; rfl

set_option maxRecDepth 100000 in
set_option maxHeartbeats 4000000 in
theorem showV_c (k n : Int) (s : ByteArray) (h0 : -9223372036854775808 ≤ n) (h1 : n ≤ 9223372036854775807) (hs : s.size ≤ maxLen) (w : World) :
    Calls Tryd.prog 9 #[.agg #[.int .i64 k, .int .i64 n, .string s]] w fun e w' => e = .returned (.string (valB k n s)) ∧ Below w.heap.size w w' := by
  by_cases hk2 : k = 2 ∧ isB k n s = true
  · obtain ⟨rfl, hB⟩ := hk2
    refine (showV_str n s hB (isB_size hB rfl) w).mono fun e w' h => ?_
    rw [valB_yes hB]; exact h
  obtain ⟨W0, hW0⟩ : ∃ W0, W0 = w.alloc (.cells #[.int .i64 k, .int .i64 n, .string s] 23) := ⟨_, rfl⟩
  have b0 : Below w.heap.size w W0 := by rw [hW0]; exact (Below.refl _ _).alloc (Nat.le_refl _) _
  have x0 : Box W0 w.heap.size 23 #[.int .i64 k, .int .i64 n, .string s] := by rw [hW0]; exact Box.new _ _ _
  obtain ⟨c0, c1, c2⟩ := x0.three
  have cI := hide (refIs_c k n s W0 hs)
  go_enter Tryd.func9, Tryd.ntmps9
  go_upto_region 1 with fail
  rw [← hW0]
  clear hW0
  go_wp2_with fail
  refine (unhide cI).mono ?_
  rintro e W1 ⟨rfl, hb1⟩
  have x1 := x0.on hb1 x0.lt
  have b1 := b0.trans (hb1.mono b0.size)
  clear c0 c1 c2 cI
  obtain ⟨c0, c1, c2⟩ := x1.three
  obtain ⟨q, hq⟩ : ∃ q, q = isB k n s := ⟨_, rfl⟩
  rw [← hq]
  cases q
  · have HQ := hide hq
    clear hk2 hq
    go_wp2_with fail
    go_ret
    exact ⟨by rw [valB_no (unhide HQ).symm]; rfl, b1⟩
  have hB := hq.symm
  clear hq
  have hk : k = 1 ∨ k = 3 := by
    have : k = 1 ∨ k = 2 ∨ k = 3 := by
      by_cases h1 : k = 1
      · exact .inl h1
      by_cases h2 : k = 2
      · exact .inr (.inl h2)
      by_cases h3 : k = 3
      · exact .inr (.inr h3)
      · simp [isB, h1, h2, h3] at hB
    rcases this with h | h | h
    · exact .inl h
    · exact absurd ⟨h, hB⟩ hk2
    · exact .inr h
  clear hk2
  rcases hk with rfl | rfl
  · have cD := hide (dec13_c n h0 h1 W1)
    rw [decB_itoa] at cD
    have HT := hide (show valB 1 n s = itoaB n by rw [valB_yes hB]; exact txtB_one _)
    clear hB
    go_wp2_with fail
    refine (unhide cD).mono ?_
    rintro e W2 ⟨rfl, hb2⟩
    go_wp2_with fail
    go_ret
    exact ⟨by rw [unhide HT]; rfl, b1.trans (hb2.mono b1.size)⟩
  · by_cases hn : n = 1
    · subst hn
      have HT := hide (show valB 3 1 s = ⟨#[84, 82, 85, 69]⟩ by rw [valB_yes hB]; rfl)
      clear hB
      go_wp2_with fail
      go_ret
      exact ⟨by rw [unhide HT]; rfl, b1⟩
    · have hn' : (n == 1) = false := by simp [hn]
      have HT := hide (show valB 3 n s = ⟨#[70, 65, 76, 83, 69]⟩ by rw [valB_yes hB]; show txtB [if n = 1 then _ else _] = _; rw [if_neg hn, txtB_one])
      clear hB hn
      go_wp2_with fail
      go_ret
      exact ⟨by rw [unhide HT]; rfl, b1⟩

theorem sgn_index0 (w : World) : (Instr.index 93 (.agg #[.string ⟨#[43]⟩, .string ⟨#[45]⟩, .string ⟨#[42]⟩, .string ⟨#[61]⟩, .string ⟨#[33, 61]⟩, .string ⟨#[60]⟩, .string ⟨#[60, 61]⟩, .string ⟨#[65, 78, 68]⟩, .string ⟨#[79, 82]⟩]) (.int .i64 0)).run Tryd.prog w = .ok (.string ⟨#[43]⟩) w := by kernel_rfl
theorem sgn_index1 (w : World) : (Instr.index 93 (.agg #[.string ⟨#[43]⟩, .string ⟨#[45]⟩, .string ⟨#[42]⟩, .string ⟨#[61]⟩, .string ⟨#[33, 61]⟩, .string ⟨#[60]⟩, .string ⟨#[60, 61]⟩, .string ⟨#[65, 78, 68]⟩, .string ⟨#[79, 82]⟩]) (.int .i64 1)).run Tryd.prog w = .ok (.string ⟨#[45]⟩) w := by kernel_rfl
theorem sgn_index2 (w : World) : (Instr.index 93 (.agg #[.string ⟨#[43]⟩, .string ⟨#[45]⟩, .string ⟨#[42]⟩, .string ⟨#[61]⟩, .string ⟨#[33, 61]⟩, .string ⟨#[60]⟩, .string ⟨#[60, 61]⟩, .string ⟨#[65, 78, 68]⟩, .string ⟨#[79, 82]⟩]) (.int .i64 2)).run Tryd.prog w = .ok (.string ⟨#[42]⟩) w := by kernel_rfl
theorem sgn_index3 (w : World) : (Instr.index 93 (.agg #[.string ⟨#[43]⟩, .string ⟨#[45]⟩, .string ⟨#[42]⟩, .string ⟨#[61]⟩, .string ⟨#[33, 61]⟩, .string ⟨#[60]⟩, .string ⟨#[60, 61]⟩, .string ⟨#[65, 78, 68]⟩, .string ⟨#[79, 82]⟩]) (.int .i64 3)).run Tryd.prog w = .ok (.string ⟨#[61]⟩) w := by kernel_rfl
theorem sgn_index4 (w : World) : (Instr.index 93 (.agg #[.string ⟨#[43]⟩, .string ⟨#[45]⟩, .string ⟨#[42]⟩, .string ⟨#[61]⟩, .string ⟨#[33, 61]⟩, .string ⟨#[60]⟩, .string ⟨#[60, 61]⟩, .string ⟨#[65, 78, 68]⟩, .string ⟨#[79, 82]⟩]) (.int .i64 4)).run Tryd.prog w = .ok (.string ⟨#[33, 61]⟩) w := by kernel_rfl
theorem sgn_index5 (w : World) : (Instr.index 93 (.agg #[.string ⟨#[43]⟩, .string ⟨#[45]⟩, .string ⟨#[42]⟩, .string ⟨#[61]⟩, .string ⟨#[33, 61]⟩, .string ⟨#[60]⟩, .string ⟨#[60, 61]⟩, .string ⟨#[65, 78, 68]⟩, .string ⟨#[79, 82]⟩]) (.int .i64 5)).run Tryd.prog w = .ok (.string ⟨#[60]⟩) w := by kernel_rfl
theorem sgn_index6 (w : World) : (Instr.index 93 (.agg #[.string ⟨#[43]⟩, .string ⟨#[45]⟩, .string ⟨#[42]⟩, .string ⟨#[61]⟩, .string ⟨#[33, 61]⟩, .string ⟨#[60]⟩, .string ⟨#[60, 61]⟩, .string ⟨#[65, 78, 68]⟩, .string ⟨#[79, 82]⟩]) (.int .i64 6)).run Tryd.prog w = .ok (.string ⟨#[60, 61]⟩) w := by kernel_rfl
theorem sgn_index7 (w : World) : (Instr.index 93 (.agg #[.string ⟨#[43]⟩, .string ⟨#[45]⟩, .string ⟨#[42]⟩, .string ⟨#[61]⟩, .string ⟨#[33, 61]⟩, .string ⟨#[60]⟩, .string ⟨#[60, 61]⟩, .string ⟨#[65, 78, 68]⟩, .string ⟨#[79, 82]⟩]) (.int .i64 7)).run Tryd.prog w = .ok (.string ⟨#[65, 78, 68]⟩) w := by kernel_rfl
theorem sgn_index8 (w : World) : (Instr.index 93 (.agg #[.string ⟨#[43]⟩, .string ⟨#[45]⟩, .string ⟨#[42]⟩, .string ⟨#[61]⟩, .string ⟨#[33, 61]⟩, .string ⟨#[60]⟩, .string ⟨#[60, 61]⟩, .string ⟨#[65, 78, 68]⟩, .string ⟨#[79, 82]⟩]) (.int .i64 8)).run Tryd.prog w = .ok (.string ⟨#[79, 82]⟩) w := by kernel_rfl

set_option maxRecDepth 100000 in
set_option maxHeartbeats 4000000 in
theorem sign_c (op : Int) (h3 : 3 ≤ op) (h11 : op ≤ 11) (w : World) : Calls Tryd.prog 48 #[.int .i64 op] w fun e w' => e = .returned (.string (sgB op.toNat)) ∧ w' = w := by
  have i0 := sgn_index0
  have i1 := sgn_index1
  have i2 := sgn_index2
  have i3 := sgn_index3
  have i4 := sgn_index4
  have i5 := sgn_index5
  have i6 := sgn_index6
  have i7 := sgn_index7
  have i8 := sgn_index8
  obtain rfl | rfl | rfl | rfl | rfl | rfl | rfl | rfl | rfl : op = 3 ∨ op = 4 ∨ op = 5 ∨ op = 6 ∨ op = 7 ∨ op = 8 ∨ op = 9 ∨ op = 10 ∨ op = 11 := by omega
  all_goals
    clear h3 h11
    go_enter Tryd.func48, Tryd.ntmps48
    go_wp2_with fail
    go_ret
    exact ⟨rfl, rfl⟩

end Go.Proofs.YtfofpenajkaalaaDoor
