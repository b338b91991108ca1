/-
  What package pasternlaw9's ParseWrong does: its fourteen texts, none of them a pattern.
-/
import Derived.Test.YtmhpakhnclkenaaGreatDoorKnown9
namespace Go.Proofs.YtmhpakhnclkenaaGreatDoor
open Go.RowKit Go.Shelf

attribute [local go_sem] Oper.semAt_some

def wrongL : List ByteArray := [⟨#[]⟩, ⟨#[83, 69, 81]⟩, ⟨#[83, 69, 81, 40, 41]⟩, ⟨#[83, 69, 81, 40, 97, 41, 32, 87, 73, 84, 72, 73, 78, 32, 53]⟩, ⟨#[83, 69, 81, 40, 97, 58, 116, 41, 32, 87, 73, 84, 72, 73, 78]⟩, ⟨#[83, 69, 81, 40, 97, 58, 116, 41, 32, 87, 73, 84, 72, 73, 78, 32, 45, 49]⟩, ⟨#[83, 69, 81, 40, 97, 58, 116, 41, 32, 87, 73, 84, 72, 73, 78, 32, 49, 48, 48, 49]⟩, ⟨#[83, 69, 81, 40, 33, 97, 58, 116, 44, 32, 98, 58, 116, 41, 32, 87, 73, 84, 72, 73, 78, 32, 53]⟩, ⟨#[83, 69, 81, 40, 97, 58, 116, 44, 32, 97, 58, 116, 41, 32, 87, 73, 84, 72, 73, 78, 32, 53]⟩, ⟨#[83, 69, 81, 40, 97, 58, 116, 43, 43, 41, 32, 87, 73, 84, 72, 73, 78, 32, 53]⟩, ⟨#[83, 69, 81, 40, 97, 58, 116, 91, 93, 41, 32, 87, 73, 84, 72, 73, 78, 32, 53]⟩, ⟨#[83, 69, 81, 40, 97, 58, 116, 41, 32, 87, 73, 84, 72, 73, 78, 32, 53, 32, 65, 78, 89, 32, 66, 89, 32, 105, 100]⟩, ⟨#[83, 69, 81, 40, 97, 58, 116, 91, 40, 49, 32, 43, 32, 50, 93, 41, 32, 87, 73, 84, 72, 73, 78, 32, 53]⟩, ⟨#[83, 69, 81, 40, 97, 58, 116, 91, 40, 97, 46, 120, 32, 65, 78, 68, 41, 93, 41, 32, 87, 73, 84, 72, 73, 78, 32, 53]⟩]
abbrev wrongV : Array Value := #[.string ⟨#[]⟩, .string ⟨#[83, 69, 81]⟩, .string ⟨#[83, 69, 81, 40, 41]⟩, .string ⟨#[83, 69, 81, 40, 97, 41, 32, 87, 73, 84, 72, 73, 78, 32, 53]⟩, .string ⟨#[83, 69, 81, 40, 97, 58, 116, 41, 32, 87, 73, 84, 72, 73, 78]⟩, .string ⟨#[83, 69, 81, 40, 97, 58, 116, 41, 32, 87, 73, 84, 72, 73, 78, 32, 45, 49]⟩, .string ⟨#[83, 69, 81, 40, 97, 58, 116, 41, 32, 87, 73, 84, 72, 73, 78, 32, 49, 48, 48, 49]⟩, .string ⟨#[83, 69, 81, 40, 33, 97, 58, 116, 44, 32, 98, 58, 116, 41, 32, 87, 73, 84, 72, 73, 78, 32, 53]⟩, .string ⟨#[83, 69, 81, 40, 97, 58, 116, 44, 32, 97, 58, 116, 41, 32, 87, 73, 84, 72, 73, 78, 32, 53]⟩, .string ⟨#[83, 69, 81, 40, 97, 58, 116, 43, 43, 41, 32, 87, 73, 84, 72, 73, 78, 32, 53]⟩, .string ⟨#[83, 69, 81, 40, 97, 58, 116, 91, 93, 41, 32, 87, 73, 84, 72, 73, 78, 32, 53]⟩, .string ⟨#[83, 69, 81, 40, 97, 58, 116, 41, 32, 87, 73, 84, 72, 73, 78, 32, 53, 32, 65, 78, 89, 32, 66, 89, 32, 105, 100]⟩, .string ⟨#[83, 69, 81, 40, 97, 58, 116, 91, 40, 49, 32, 43, 32, 50, 93, 41, 32, 87, 73, 84, 72, 73, 78, 32, 53]⟩, .string ⟨#[83, 69, 81, 40, 97, 58, 116, 91, 40, 97, 46, 120, 32, 65, 78, 68, 41, 93, 41, 32, 87, 73, 84, 72, 73, 78, 32, 53]⟩]
set_option maxRecDepth 100000 in
theorem wrong_none : wrongL.all (fun t => decide ((patF (readP t)).2 = 10) && decide ((patF (readP t)).1.es.length = 0) && decide (t.size ≤ 1000)) = true := by decide +kernel
theorem wrong_index0 (w : World) : (Instr.index 51 (.agg wrongV) (.int .u8 0)).run Tryz.prog w = .ok (.string ⟨#[]⟩) w := by kernel_rfl
theorem wrong_index1 (w : World) : (Instr.index 51 (.agg wrongV) (.int .u8 1)).run Tryz.prog w = .ok (.string ⟨#[83, 69, 81]⟩) w := by kernel_rfl
theorem wrong_index2 (w : World) : (Instr.index 51 (.agg wrongV) (.int .u8 2)).run Tryz.prog w = .ok (.string ⟨#[83, 69, 81, 40, 41]⟩) w := by kernel_rfl
theorem wrong_index3 (w : World) : (Instr.index 51 (.agg wrongV) (.int .u8 3)).run Tryz.prog w = .ok (.string ⟨#[83, 69, 81, 40, 97, 41, 32, 87, 73, 84, 72, 73, 78, 32, 53]⟩) w := by kernel_rfl
theorem wrong_index4 (w : World) : (Instr.index 51 (.agg wrongV) (.int .u8 4)).run Tryz.prog w = .ok (.string ⟨#[83, 69, 81, 40, 97, 58, 116, 41, 32, 87, 73, 84, 72, 73, 78]⟩) w := by kernel_rfl
theorem wrong_index5 (w : World) : (Instr.index 51 (.agg wrongV) (.int .u8 5)).run Tryz.prog w = .ok (.string ⟨#[83, 69, 81, 40, 97, 58, 116, 41, 32, 87, 73, 84, 72, 73, 78, 32, 45, 49]⟩) w := by kernel_rfl
theorem wrong_index6 (w : World) : (Instr.index 51 (.agg wrongV) (.int .u8 6)).run Tryz.prog w = .ok (.string ⟨#[83, 69, 81, 40, 97, 58, 116, 41, 32, 87, 73, 84, 72, 73, 78, 32, 49, 48, 48, 49]⟩) w := by kernel_rfl
theorem wrong_index7 (w : World) : (Instr.index 51 (.agg wrongV) (.int .u8 7)).run Tryz.prog w = .ok (.string ⟨#[83, 69, 81, 40, 33, 97, 58, 116, 44, 32, 98, 58, 116, 41, 32, 87, 73, 84, 72, 73, 78, 32, 53]⟩) w := by kernel_rfl
theorem wrong_index8 (w : World) : (Instr.index 51 (.agg wrongV) (.int .u8 8)).run Tryz.prog w = .ok (.string ⟨#[83, 69, 81, 40, 97, 58, 116, 44, 32, 97, 58, 116, 41, 32, 87, 73, 84, 72, 73, 78, 32, 53]⟩) w := by kernel_rfl
theorem wrong_index9 (w : World) : (Instr.index 51 (.agg wrongV) (.int .u8 9)).run Tryz.prog w = .ok (.string ⟨#[83, 69, 81, 40, 97, 58, 116, 43, 43, 41, 32, 87, 73, 84, 72, 73, 78, 32, 53]⟩) w := by kernel_rfl
theorem wrong_index10 (w : World) : (Instr.index 51 (.agg wrongV) (.int .u8 10)).run Tryz.prog w = .ok (.string ⟨#[83, 69, 81, 40, 97, 58, 116, 91, 93, 41, 32, 87, 73, 84, 72, 73, 78, 32, 53]⟩) w := by kernel_rfl
theorem wrong_index11 (w : World) : (Instr.index 51 (.agg wrongV) (.int .u8 11)).run Tryz.prog w = .ok (.string ⟨#[83, 69, 81, 40, 97, 58, 116, 41, 32, 87, 73, 84, 72, 73, 78, 32, 53, 32, 65, 78, 89, 32, 66, 89, 32, 105, 100]⟩) w := by kernel_rfl
theorem wrong_index12 (w : World) : (Instr.index 51 (.agg wrongV) (.int .u8 12)).run Tryz.prog w = .ok (.string ⟨#[83, 69, 81, 40, 97, 58, 116, 91, 40, 49, 32, 43, 32, 50, 93, 41, 32, 87, 73, 84, 72, 73, 78, 32, 53]⟩) w := by kernel_rfl
theorem wrong_index13 (w : World) : (Instr.index 51 (.agg wrongV) (.int .u8 13)).run Tryz.prog w = .ok (.string ⟨#[83, 69, 81, 40, 97, 58, 116, 91, 40, 97, 46, 120, 32, 65, 78, 68, 41, 93, 41, 32, 87, 73, 84, 72, 73, 78, 32, 53]⟩) w := by kernel_rfl
theorem wrong_index (k : Nat) (h : k < 14) (w : World) : (Instr.index 51 (.agg wrongV) (.int .u8 k)).run Tryz.prog w = .ok (.string (wrongL[k]'h)) w := by
  match k, h with
  | 0, _ => exact wrong_index0 w
  | 1, _ => exact wrong_index1 w
  | 2, _ => exact wrong_index2 w
  | 3, _ => exact wrong_index3 w
  | 4, _ => exact wrong_index4 w
  | 5, _ => exact wrong_index5 w
  | 6, _ => exact wrong_index6 w
  | 7, _ => exact wrong_index7 w
  | 8, _ => exact wrong_index8 w
  | 9, _ => exact wrong_index9 w
  | 10, _ => exact wrong_index10 w
  | 11, _ => exact wrong_index11 w
  | 12, _ => exact wrong_index12 w
  | 13, _ => exact wrong_index13 w
  | k + 14, h => omega

set_option maxRecDepth 100000 in
set_option maxHeartbeats 8000000 in
theorem wrong6_c (n : Int) (h0 : 0 ≤ n) (h1 : n < 256) (W : World) (h9 : V9 W) : Calls Tryz.prog 6 #[.int .u8 n] W fun r W' => r = .returned (.bool true) ∧ Below W.heap.size W W' := by
  obtain ⟨k, hk⟩ : ∃ k : Nat, (k : Int) = n % 14 := ⟨(n % 14).toNat, by omega⟩
  have hk14 : k < 14 := by omega
  have hi := wrong_index k hk14
  obtain ⟨t, ht⟩ : ∃ t, t = wrongL[k]'hk14 := ⟨_, rfl⟩
  rw [← ht] at hi
  have hm := (List.all_eq_true.1 wrong_none) t (by rw [ht]; exact List.getElem_mem _)
  simp only [Bool.and_eq_true, decide_eq_true_eq] at hm
  obtain ⟨⟨m1, m2⟩, m3⟩ := hm
  rw [hk] at hi
  clear ht hk hk14
  have CK := hide (known7_c W h9)
  have cp := fun (U : World) (h : V9 U) => parseP_c t (by omega) U h.v h.s h.p
  rw [m1, errO_ne (show (10 : Int) ≠ 0 by decide)] at cp
  generalize (patF (readP t)).1 = Q at cp m2
  obtain ⟨es, wi, nm, an⟩ := Q
  replace m2 : es.length = 0 := m2
  have CP := hide cp
  clear cp m1
  replace h9 := hide h9
  replace m2 := hide m2
  clear m3
  have Hi := hide hi
  clear hi
  go_enter Tryz.func6, Tryz.ntmps6
  go_wp2_with fail
  refine (unhide CK).mono ?_
  rintro r W1 ⟨rfl, b1⟩
  have V1 := (unhide h9).on b1
  have C2 := hide (unhide CP W1 V1)
  clear CK CP V1
  have hi := unhide Hi W1
  go_wp2_with fail
  refine (unhide C2).mono ?_
  rintro r W2 ⟨v, rfl, ⟨a, c, rfl, -, -⟩, b2⟩
  obtain ⟨X2, hX2⟩ : ∃ X, X = W2.alloc (.cells #[.slice a es.length c, .int .i64 wi, .string nm.1, .bool an] 36) := ⟨_, rfl⟩
  have d2 : Below W2.heap.size W2 X2 := by rw [hX2]; exact (Below.refl _ _).alloc (Nat.le_refl _) _
  have p2 : Box X2 W2.heap.size 36 #[.slice a es.length c, .int .i64 wi, .string nm.1, .bool an] := by rw [hX2]; exact Box.new _ _ _
  have b12 := b1.trans (b2.mono b1.size)
  have bb := hide (b12.trans (d2.mono b12.size))
  obtain ⟨t0, t1, t2, t3⟩ := p2.four
  clear C2 hi Hi h9 b1 b2 b12 d2 p2
  go_upto_region 5 with fail
  rw [← hX2]
  clear hX2
  rw [unhide m2] at t0
  go_wp2_with fail
  refine (errIs_c 10 10 _).mono ?_
  rintro r w ⟨rfl, rfl⟩
  go_wp2_with fail
  go_ret
  exact ⟨rfl, unhide bb⟩
end Go.Proofs.YtmhpakhnclkenaaGreatDoor
