/-
  What the document's number answers: for every text and place where a number begins, in whatever world; nothing that lay is turned.
-/
import Derived.Test.YtgfaaeloppdkkaaDoorDNumH
namespace Go.Proofs.YtgfaaeloppdkkaaDoor
open Go.RowKit Go.Shelf

set_option maxRecDepth 100000 in
set_option maxHeartbeats 4000000 in
theorem number25_neg (s : ByteArray) (at_ N : Nat) (V : Nat → Nat) (hat : at_ < s.size) (hd : Digs s (at_ + 1) N V) (h45 : s[at_].toNat = 45) (R : Wd) (hr : R = if V N ≤ 9223372036854775808 then .word 2 [] (-(V N : Int)) (1 + N) else .bad 12) (w : World) (hs : s.size ≤ 281474976710656) :
    Calls Tryd.prog 25 #[.string s, .int .i64 at_] w fun e w' => e = .returned (encD R) ∧ Below w.heap.size w w' := by
  have HD := hide hd
  have HR := hide hr
  clear hd hr
  obtain ⟨W0, hW0⟩ : ∃ W0, W0 = w.alloc (.cells #[.int .i64 0, .string ⟨#[]⟩, .int .i64 0, .int .i64 0] 32) := ⟨_, rfl⟩
  have b0 : Box W0 w.heap.size 32 w0 := by rw [hW0]; exact Box.new w 32 w0
  have bb0 : Below w.heap.size w W0 := by rw [hW0]; exact (Below.refl _ _).alloc (Nat.le_refl _) _
  have HW := hide hW0
  have HBB := hide bb0
  have B0 := hide b0
  clear hW0 bb0 b0
  have h45' : ((s[at_].toNat : Int) == 45) = true := by simp; omega
  clear h45
  go_enter Tryd.func25, Tryd.ntmps25
  go_wp2
  rw [← unhide HW]
  go_loopw [8, 9] (fun n v wr => ∃ (j k : Nat), j ≤ N ∧ V j ≤ 9223372036854775808 ∧ Hid (k = 1 + j) ∧ n = .int .i64 k ∧ v = .int .u64 (V j) ∧ wr = W0) (fun n _ _ => s.size + 2 - (intOf n).toNat)
  case atStart => exact ⟨0, 1, by omega, by have := (unhide HD).zero; omega, hide rfl, by go_num, by rw [(unhide HD).zero]; rfl, rfl⟩
  case round =>
    obtain ⟨j, k, hj, hv, hk, rfl, rfl, rfl⟩ := hrel
    obtain ⟨c0, c1, c2, c3, f0, f1, f2, f3⟩ := Box.four (unhide B0)
    have hle := (unhide HD).le
    have bN := Box.new wr 32 w0
    obtain ⟨a0, a1, a2, a3, p0, p1, p2, p3⟩ := bN.four
    have BA : ∀ o, Hid (Box (wr.alloc o) w.heap.size 32 w0) := fun o => hide ((unhide B0).alloc o)
    have z0 : ∀ o, (wr.alloc o).cell? ⟨w.heap.size, 0, none⟩ = some (.int .i64 0) := fun o => (unhide (BA o)).four.1
    have z1 : ∀ o, (wr.alloc o).cell? ⟨w.heap.size, 1, none⟩ = some (.string ⟨#[]⟩) := fun o => (unhide (BA o)).four.2.1
    have z2 : ∀ o, (wr.alloc o).cell? ⟨w.heap.size, 2, none⟩ = some (.int .i64 0) := fun o => (unhide (BA o)).four.2.2.1
    have z3 : ∀ o, (wr.alloc o).cell? ⟨w.heap.size, 3, none⟩ = some (.int .i64 0) := fun o => (unhide (BA o)).four.2.2.2.1
    have y0 : ∀ o, (wr.alloc o).frozen? ⟨w.heap.size, 0, none⟩ = false := fun o => (unhide (BA o)).frz 0
    have y1 : ∀ o, (wr.alloc o).frozen? ⟨w.heap.size, 1, none⟩ = false := fun o => (unhide (BA o)).frz 1
    have y2 : ∀ o, (wr.alloc o).frozen? ⟨w.heap.size, 2, none⟩ = false := fun o => (unhide (BA o)).frz 2
    have y3 : ∀ o, (wr.alloc o).frozen? ⟨w.heap.size, 3, none⟩ = false := fun o => (unhide (BA o)).frz 3
    by_cases hlt : at_ + k < s.size
    · have HDG : ∀ w, Hid (Calls Tryd.prog 24 #[.int .u8 (s[at_ + k].toNat : Int)] w fun e w' => e = .returned (.bool (inB 48 57 (s[at_ + k].toNat : Int))) ∧ w' = w) := fun w => hide (digit24_c (s[at_ + k].toNat : Int) w)
      by_cases hjn : j < N
      · obtain ⟨D, Q, hin, eD, hQ, hv1, hD⟩ : ∃ D Q : Nat, inB 48 57 (s[at_ + k].toNat : Int) = true ∧ (s[at_ + k].toNat : Int) - 48 = D ∧ Q = 9223372036854775808 - D ∧ V (j + 1) = V j * 10 + D ∧ D ≤ 9 := by
          obtain ⟨hb, hc0, hc1, hv1⟩ := (unhide HD).at_ j hjn
          have ek : at_ + 1 + j = at_ + k := by have := unhide hk; omega
          simp only [ek] at hb hc0 hc1 hv1
          exact ⟨s[at_ + k].toNat - 48, _, by simp [inB]; omega, by omega, rfl, hv1, by omega⟩
        have HV1 := hide hv1
        clear hv1
        have eD0 : IntKind.u8.wrap ((s[at_ + k].toNat : Int) - 48) = (D : Int) := by rw [eD, IntKind.wrap_u8]; omega
        have eD1 : IntKind.u64.wrap (D : Int) = D := by rw [IntKind.wrap_u64]; omega
        have eQ0 : IntKind.u64.wrap (9223372036854775808 - (D : Int)) = (Q : Int) := by rw [IntKind.wrap_u64]; omega
        have eQ1 : IntKind.u64.wrap ((Q : Int) / 10) = (Q : Int) / 10 := by rw [IntKind.wrap_u64]; omega
        clear eD
        by_cases hov : (Q : Int) / 10 < (V j : Int)
        · have H := hide (show R = .bad 12 by
            have h1 := (unhide HD).top (j + 1)
            have h2 := unhide HV1
            rw [unhide HR, if_neg (by omega)])
          clear hQ
          go_wp2_with fail
          refine (unhide (HDG _)).mono ?_
          rintro e w2 ⟨rfl, rfl⟩
          rw [hin]
          go_wp2
          obtain ⟨q0, q1, q2, q3, _, _, _, _⟩ := ((unhide B0).put4 (.int .i64 0) (.string ⟨#[]⟩) (.int .i64 0) (.int .i64 0)).four
          refine bodyPost_ret (v := .tuple #[.agg #[.int .i64 0, .string ⟨#[]⟩, .int .i64 0, .int .i64 0], .int .i64 0, .int .i64 12]) (by simp [results, Tryd.results25, go_sem, q0, q1, q2, q3]) rfl ⟨by rw [unhide H]; rfl, ?_⟩
          exact below4 (unhide HBB) (Nat.le_refl _) _ _ _ _
        · have eM : IntKind.u64.wrap ((V j : Int) * 10) = (V j : Int) * 10 := by rw [IntKind.wrap_u64]; omega
          have eA : IntKind.u64.wrap ((V j : Int) * 10 + D) = (V j : Int) * 10 + D := by rw [IntKind.wrap_u64]; omega
          have hvn : V (j + 1) ≤ 9223372036854775808 := by have h2 := unhide HV1; omega
          clear hQ
          go_wp2_with fail
          refine (unhide (HDG _)).mono ?_
          rintro e w2 ⟨rfl, rfl⟩
          rw [hin]
          go_wp2
          go_roundw
          case rel => exact ⟨j + 1, k + 1, by omega, hvn, hide (by have := unhide hk; omega), by go_num, by rw [unhide HV1]; congr 1, trivial⟩
          case measure => simp [intOf]; omega
      · have hin : inB 48 57 (s[at_ + k].toNat : Int) = false := by
          have ek : at_ + 1 + N = at_ + k := by have := unhide hk; omega
          have := (unhide HD).out (by omega)
          simp only [ek] at this
          exact this
        obtain rfl : j = N := by omega
        have H := hide (show R = .word 2 [] (-(V j : Int)) k by rw [unhide HR, if_pos hv, show k = 1 + j from unhide hk])
        by_cases h0 : V j = 0
        · rw [h0] at H
          go_wp2_with fail
          refine (unhide (HDG _)).mono ?_
          rintro e w2 ⟨rfl, rfl⟩
          rw [hin]
          try rw [h0]
          go_wp2
          have B9 := unhide (BA (.cells #[.int .i64 2, .string ⟨#[]⟩, .int .i64 0, .int .i64 0] 32))
          have hb9 := (unhide HBB).trans (((Below.refl _ _).alloc (Nat.le_refl _) (.cells #[.int .i64 2, .string ⟨#[]⟩, .int .i64 0, .int .i64 0] 32)).mono (unhide HBB).size)
          generalize w2.alloc (.cells #[.int .i64 2, .string ⟨#[]⟩, .int .i64 0, .int .i64 0] 32) = W9 at B9 hb9 ⊢
          obtain ⟨q0, q1, q2, q3, _, _, _, _⟩ := (B9.put4 (.int .i64 2) (.string ⟨#[]⟩) (.int .i64 0) (.int .i64 0)).four
          have H' : encD R = .tuple #[.agg #[.int .i64 2, .string ⟨#[]⟩, .int .i64 0, .int .i64 0], .int .i64 (k : Int), .int .i64 0] := by rw [unhide H]; rfl
          refine bodyPost_ret (v := .tuple #[.agg #[.int .i64 2, .string ⟨#[]⟩, .int .i64 0, .int .i64 0], .int .i64 (k : Int), .int .i64 0]) (by simp [results, Tryd.results25, go_sem, q0, q1, q2, q3]) rfl ⟨by rw [H'], ?_⟩
          exact below4 hb9 (Nat.le_refl _) _ _ _ _
        · obtain ⟨C, hC⟩ : ∃ C, C = IntKind.i64.wrap (V j : Int) := ⟨_, rfl⟩
          have eC : IntKind.i64.wrap (V j : Int) = C := hC.symm
          have e1 : IntKind.u64.wrap ((V j : Int) - 1) = (V j : Int) - 1 := by rw [IntKind.wrap_u64]; omega
          have e2 : IntKind.i64.wrap ((V j : Int) - 1) = (V j : Int) - 1 := by rw [IntKind.wrap_i64]; omega
          have e3 : IntKind.i64.wrap (-((V j : Int) - 1)) = -((V j : Int) - 1) := by rw [IntKind.wrap_i64]; omega
          have e4 : IntKind.i64.wrap (-((V j : Int) - 1) - 1) = -(V j : Int) := by rw [IntKind.wrap_i64]; omega
          clear hC
          go_wp2_with fail
          refine (unhide (HDG _)).mono ?_
          rintro e w2 ⟨rfl, rfl⟩
          rw [hin]
          go_wp2
          have B9 := unhide (BA (.cells #[.int .i64 2, .string ⟨#[]⟩, .int .i64 (-(V j : Int)), .int .i64 0] 32))
          have hb9 := (unhide HBB).trans (((Below.refl _ _).alloc (Nat.le_refl _) (.cells #[.int .i64 2, .string ⟨#[]⟩, .int .i64 (-(V j : Int)), .int .i64 0] 32)).mono (unhide HBB).size)
          generalize w2.alloc (.cells #[.int .i64 2, .string ⟨#[]⟩, .int .i64 (-(V j : Int)), .int .i64 0] 32) = W9 at B9 hb9 ⊢
          obtain ⟨q0, q1, q2, q3, _, _, _, _⟩ := (B9.put4 (.int .i64 2) (.string ⟨#[]⟩) (.int .i64 (-(V j : Int))) (.int .i64 0)).four
          have H' : encD R = .tuple #[.agg #[.int .i64 2, .string ⟨#[]⟩, .int .i64 (-(V j : Int)), .int .i64 0], .int .i64 (k : Int), .int .i64 0] := by rw [unhide H]; rfl
          refine bodyPost_ret (v := .tuple #[.agg #[.int .i64 2, .string ⟨#[]⟩, .int .i64 (-(V j : Int)), .int .i64 0], .int .i64 (k : Int), .int .i64 0]) (by simp [results, Tryd.results25, go_sem, q0, q1, q2, q3]) rfl ⟨by rw [H'], ?_⟩
          exact below4 hb9 (Nat.le_refl _) _ _ _ _
    · have hkb : at_ + k ≤ 281474976710656 := by have := unhide hk; omega
      obtain rfl : j = N := by have := unhide hk; omega
      have hge : (s.size : Int) ≤ (at_ : Int) + k := by omega
      have H := hide (show R = .word 2 [] (-(V j : Int)) k by rw [unhide HR, if_pos hv, show k = 1 + j from unhide hk])
      by_cases h0 : V j = 0
      · rw [h0] at H
        try rw [h0]
        go_wp2
        have B9 := unhide (BA (.cells #[.int .i64 2, .string ⟨#[]⟩, .int .i64 0, .int .i64 0] 32))
        have hb9 := (unhide HBB).trans (((Below.refl _ _).alloc (Nat.le_refl _) (.cells #[.int .i64 2, .string ⟨#[]⟩, .int .i64 0, .int .i64 0] 32)).mono (unhide HBB).size)
        generalize wr.alloc (.cells #[.int .i64 2, .string ⟨#[]⟩, .int .i64 0, .int .i64 0] 32) = W9 at B9 hb9 ⊢
        obtain ⟨q0, q1, q2, q3, _, _, _, _⟩ := (B9.put4 (.int .i64 2) (.string ⟨#[]⟩) (.int .i64 0) (.int .i64 0)).four
        have H' : encD R = .tuple #[.agg #[.int .i64 2, .string ⟨#[]⟩, .int .i64 0, .int .i64 0], .int .i64 (k : Int), .int .i64 0] := by rw [unhide H]; rfl
        refine bodyPost_ret (v := .tuple #[.agg #[.int .i64 2, .string ⟨#[]⟩, .int .i64 0, .int .i64 0], .int .i64 (k : Int), .int .i64 0]) (by simp [results, Tryd.results25, go_sem, q0, q1, q2, q3]) rfl ⟨by rw [H'], ?_⟩
        exact below4 hb9 (Nat.le_refl _) _ _ _ _
      · obtain ⟨C, hC⟩ : ∃ C, C = IntKind.i64.wrap (V j : Int) := ⟨_, rfl⟩
        have eC : IntKind.i64.wrap (V j : Int) = C := hC.symm
        have e1 : IntKind.u64.wrap ((V j : Int) - 1) = (V j : Int) - 1 := by rw [IntKind.wrap_u64]; omega
        have e2 : IntKind.i64.wrap ((V j : Int) - 1) = (V j : Int) - 1 := by rw [IntKind.wrap_i64]; omega
        have e3 : IntKind.i64.wrap (-((V j : Int) - 1)) = -((V j : Int) - 1) := by rw [IntKind.wrap_i64]; omega
        have e4 : IntKind.i64.wrap (-((V j : Int) - 1) - 1) = -(V j : Int) := by rw [IntKind.wrap_i64]; omega
        clear hC
        go_wp2
        have B9 := unhide (BA (.cells #[.int .i64 2, .string ⟨#[]⟩, .int .i64 (-(V j : Int)), .int .i64 0] 32))
        have hb9 := (unhide HBB).trans (((Below.refl _ _).alloc (Nat.le_refl _) (.cells #[.int .i64 2, .string ⟨#[]⟩, .int .i64 (-(V j : Int)), .int .i64 0] 32)).mono (unhide HBB).size)
        generalize wr.alloc (.cells #[.int .i64 2, .string ⟨#[]⟩, .int .i64 (-(V j : Int)), .int .i64 0] 32) = W9 at B9 hb9 ⊢
        obtain ⟨q0, q1, q2, q3, _, _, _, _⟩ := (B9.put4 (.int .i64 2) (.string ⟨#[]⟩) (.int .i64 (-(V j : Int))) (.int .i64 0)).four
        have H' : encD R = .tuple #[.agg #[.int .i64 2, .string ⟨#[]⟩, .int .i64 (-(V j : Int)), .int .i64 0], .int .i64 (k : Int), .int .i64 0] := by rw [unhide H]; rfl
        refine bodyPost_ret (v := .tuple #[.agg #[.int .i64 2, .string ⟨#[]⟩, .int .i64 (-(V j : Int)), .int .i64 0], .int .i64 (k : Int), .int .i64 0]) (by simp [results, Tryd.results25, go_sem, q0, q1, q2, q3]) rfl ⟨by rw [H'], ?_⟩
        exact below4 hb9 (Nat.le_refl _) _ _ _ _
end Go.Proofs.YtgfaaeloppdkkaaDoor
