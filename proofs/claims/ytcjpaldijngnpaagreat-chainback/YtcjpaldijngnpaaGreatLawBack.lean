/-
  The walk of ChainBack: true for all numbers, in whatever world; nothing that lay is turned.
-/
import Derived.Test.YtcjpaldijngnpaaGreatLawMany
namespace Go.Proofs.YtcjpaldijngnpaaGreat
open Go.RowKit Go.Shelf

theorem conv1 (W : World) (c : Int) : (convert 45 9 (.slice (some ⟨W.heap.size, 0, none⟩) 1 1)).run Tryz.prog (W.alloc (.cells #[.int .u8 c] 5)) = .ok (.string (strOfNums [c])) (W.alloc (.cells #[.int .u8 c] 5)) :=
  run_convert_bytes_arg _ 45 5 Tryz.underlying45 Tryz.underlying5 W.heap.size 0 1 1 [c] rfl (fun i hi => by
    have : i = 0 := by omega
    subst this
    simp) 9 Tryz.underlying9
theorem str_f {c : Int} {i : Nat} (h : c = 97 + (i : Int)) : (⟨#[102]⟩ : ByteArray) ++ strOfNums [c] = (fB i).1 := by
  have : ((97 : Int) + (i : Int)).toNat = 97 + i := by omega
  apply ByteArray.ext
  simp [fB, t2, strOfNums, ByteArray.data_append, h, this]
theorem ans_is {x : Option Txt} {l : List UInt8} {b : Bool} (h : ansB (backV x) = some (l, b)) : backV x = .tuple #[.string ⟨l.toArray⟩, .bool b] := by
  rw [backV_ans] at h
  cases x with
  | none =>
    simp only [Option.some.injEq, Prod.mk.injEq] at h
    obtain ⟨rfl, rfl⟩ := h
    rfl
  | some s =>
    simp only [Option.some.injEq, Prod.mk.injEq] at h
    obtain ⟨rfl, rfl⟩ := h
    rfl
theorem backA_v (ts : List Ty) (cs : List Ch) (ty' fd' : Txt) (f t : Int) : ∃ x, backA ts cs ty' fd' f t = backV x := by
  unfold backA
  split <;> exact ⟨_, rfl⟩
theorem backB_0 {k : Nat} (h1 : 1 ≤ k) (h6 : k ≤ 6) : backA tsB (csB k) (t1 97) (fB k) 0 (3 * k + 1 : Nat) = .tuple #[.string ⟨#[]⟩, .bool false] := by
  obtain ⟨x, hx⟩ := backA_v tsB (csB k) (t1 97) (fB k) 0 (3 * k + 1 : Nat)
  obtain ⟨k, rfl⟩ : ∃ m, k = m + 1 := ⟨k - 1, by omega⟩
  have h := List.all_eq_true.1 (List.all_eq_true.1 backB_all k (List.mem_range.2 (by omega))) 0 (List.mem_range.2 (by omega))
  simp only [if_true, beq_iff_eq] at h
  rw [hx]
  rw [show ((0 : Nat) : Int) = 0 from rfl, hx] at h
  exact ans_is h
theorem backB_v {k v : Nat} (h1 : 1 ≤ k) (h6 : k ≤ 6) (hv : 1 ≤ v) (hk : v ≤ 3 * k + 1) : backA tsB (csB k) (t1 97) (fB k) v (3 * k + 1 : Nat) = .tuple #[.string (fB (wasB v)).1, .bool true] := by
  obtain ⟨x, hx⟩ := backA_v tsB (csB k) (t1 97) (fB k) v (3 * k + 1 : Nat)
  obtain ⟨k, rfl⟩ : ∃ m, k = m + 1 := ⟨k - 1, by omega⟩
  have h := List.all_eq_true.1 (List.all_eq_true.1 backB_all k (List.mem_range.2 (by omega))) v (List.mem_range.2 (by omega))
  rw [if_neg (by omega)] at h
  simp only [beq_iff_eq] at h
  rw [hx] at h ⊢
  exact ans_is h
theorem backX_v {k v : Nat} (h1 : 1 ≤ k) (h6 : k ≤ 6) (hv : 1 ≤ v) (hk : v ≤ 3 * k + 1) : ∃ c : UInt8, (c = 120 ∨ c = 121) ∧ backA tsB (csB k) (t1 98) (t1 120) v (3 * k + 1 : Nat) = .tuple #[.string ⟨#[c]⟩, .bool true] := by
  obtain ⟨x, hx⟩ := backA_v tsB (csB k) (t1 98) (t1 120) v (3 * k + 1 : Nat)
  obtain ⟨k, rfl⟩ : ∃ m, k = m + 1 := ⟨k - 1, by omega⟩
  obtain ⟨v, rfl⟩ : ∃ m, v = m + 1 := ⟨v - 1, by omega⟩
  have h := List.all_eq_true.1 (List.all_eq_true.1 backX_all k (List.mem_range.2 (by omega))) v (List.mem_range.2 (by omega))
  simp only [Bool.or_eq_true, beq_iff_eq] at h
  rw [hx] at h ⊢
  rcases h with h | h
  · exact ⟨120, .inl rfl, ans_is h⟩
  · exact ⟨121, .inr rfl, ans_is h⟩

set_option maxRecDepth 100000 in
set_option maxHeartbeats 8000000 in
theorem back_walk (n0 n1 : Int) (h0 : 0 ≤ n0) (h1 : n0 ≤ 255) (h2 : 0 ≤ n1) (h3 : n1 ≤ 255) (w : World) : Calls Tryz.prog 4 #[.int .u8 n0, .int .u8 n1] w fun e w' => e = .returned (.bool true) ∧ Below w.heap.size w w' := by
  have cK := hide (known_c w)
  obtain ⟨k0, hk8, hk⟩ : ∃ m : Nat, m < 8 ∧ n0 % 8 = (m : Int) := ⟨(n0 % 8).toNat, by omega, by omega⟩
  go_enter Tryz.func4, Tryz.ntmps4
  go_wp2_with fail
  refine (unhide cK).mono ?_
  rintro r w1 ⟨rfl, hb1⟩
  clear cK
  obtain ⟨W0, hW0⟩ : ∃ W0, W0 = (w1.alloc (.cells #[.string ⟨#[120]⟩, .int .i64 1] 44)).alloc (.cells #[.string ⟨#[97]⟩, .slice none 0 0, .string ⟨#[98]⟩, .slice (some ⟨w1.heap.size, 0, none⟩) 1 1] 30) := ⟨_, rfl⟩
  have bA : Below w1.heap.size w1 W0 := by rw [hW0]; exact ((Below.refl _ _).alloc (Nat.le_refl _) _).alloc (by simp) _
  have x0 : Box W0 w1.heap.size 44 #[.string ⟨#[120]⟩, .int .i64 1] := by rw [hW0]; exact (Box.new w1 44 #[.string ⟨#[120]⟩, .int .i64 1]).alloc _
  have x1 : Box W0 (w1.heap.size + 1) 30 #[.string ⟨#[97]⟩, .slice none 0 0, .string ⟨#[98]⟩, .slice (some ⟨w1.heap.size, 0, none⟩) 1 1] := by
    have := Box.new (w1.alloc (.cells #[.string ⟨#[120]⟩, .int .i64 1] 44)) 30 #[.string ⟨#[97]⟩, .slice none 0 0, .string ⟨#[98]⟩, .slice (some ⟨w1.heap.size, 0, none⟩) 1 1]
    simp only [World.size_alloc] at this
    rw [hW0]; exact this
  have T : Typs W0.heap.size W0 (some ⟨w1.heap.size + 1, 0, none⟩) tsB := by
    refine .inr ⟨w1.heap.size + 1, 0, rfl, x1.lt, fun j hj => ?_⟩
    match j, hj with
    | 0, _ => exact ⟨x1.at 0 rfl, none, 0, x1.at 1 rfl, .inl rfl, by decide⟩
    | 1, _ =>
      refine ⟨x1.at 2 rfl, some ⟨w1.heap.size, 0, none⟩, 1, x1.at 3 rfl, .inr ⟨w1.heap.size, 0, rfl, x0.lt, fun j hj => ?_⟩, by decide⟩
      match j, hj with
      | 0, _ => exact ⟨x0.at 0 rfl, x0.at 1 rfl⟩
  have cN := hide (new_c (some ⟨w1.heap.size + 1, 0, none⟩) none 2 0 tsB [] (by decide) (by decide) _ T (.inl rfl))
  have bw1 := hb1.trans (bA.mono hb1.size)
  clear T x0 x1
  replace hW0 := hide hW0
  go_wp2_with fail
  rw [← unhide hW0]
  clear hW0
  refine (unhide cN).mono ?_
  rintro e w2 ⟨hb2, hN⟩
  clear cN
  have bw2 := bw1.trans (hb2.mono bw1.size)
  obtain ⟨Bp, a', ac, cap, capc, rfl, hBp, C2⟩ := new_got schB (show addAll tsB [] [] = 0 from rfl) hN
  replace hBp := Nat.le_trans bw1.size hBp
  clear hb2 hN bA hb1 bw1
  have cA := hide (add_c Bp cap capc a' ac tsB [] cB0 schB (by decide) w2 C2)
  rw [addB0, errE_zero] at cA
  clear C2
  go_upto_region 7 with fail
  rw [hk]
  clear hk
  go_wp2_with fail
  refine (unhide cA).mono ?_
  rintro e w3 ⟨rfl, hleft, -, hbel⟩
  clear cA
  have bw3 := bw2.trans (hbel w.heap.size hBp)
  have C3 := hide (add_got hleft rfl (show csB 0 = [] ++ [cB0] from rfl))
  clear hleft hbel bw2
  go_wp2_with fail
  go_loopw [8, 9] (fun nm iv wr => ∃ i : Nat, i ≤ k0 + 1 ∧ i ≤ 6 ∧ nm = .string (fB i).1 ∧ iv = .int .i64 (i + 1) ∧ Hid (∃ ac capc, IsCh wr.heap.size wr Bp a' ac cap capc tsB (csB i)) ∧ Below w.heap.size w wr) (fun _ iv _ => k0 + 2 - (intOf iv).toNat)
  case atStart => exact ⟨0, Nat.zero_le _, Nat.zero_le _, rfl, rfl, C3, bw3⟩
  case round =>
    obtain ⟨i, hik, hi6, rfl, rfl, hC, hb⟩ := hrel
    obtain ⟨ac, capc, C⟩ := unhide hC
    clear hC C3 bw3
    by_cases hlt : i < k0 + 1
    · have hlt' : (i : Int) + 1 ≤ k0 + 1 := by omega
      have hcv := conv1 wr (97 + ((i : Int) + 1))
      obtain ⟨wu, hwu⟩ : ∃ wu, wu = wr.alloc (.cells #[.int .u8 (97 + ((i : Int) + 1))] 5) := ⟨_, rfl⟩
      have bu : Below wr.heap.size wr wu := by rw [hwu]; exact (Below.refl _ _).alloc (Nat.le_refl _) _
      go_upto_region 14 with fail
      rw [str_f (i := i + 1) (by omega), ← hwu]
      clear hwu hcv
      have hr1 : addR tsB (csB i) (cBa i) = 0 := by
        by_cases h6 : i < 6
        · exact (addB_ok h6).1
        · obtain rfl : i = 6 := by omega
          exact addB_six
      have bwu := hb.trans (bu.mono hb.size)
      have cA := hide (add_c Bp cap capc a' ac tsB (csB i) (cBa i) schB (by rw [csB_len]; omega) wu ((C.on bu).mono bu.size))
      rw [hr1, errE_zero] at cA
      clear C hr1 bu hb
      go_wp2_with fail
      refine (unhide cA).mono ?_
      rintro e w5 ⟨rfl, hleft, -, hbel⟩
      clear cA
      have bw5 := bwu.trans (hbel w.heap.size hBp)
      obtain ⟨ac5, capc5, C5⟩ := add_got hleft rfl rfl
      clear hleft hbel bwu
      have hl5 : (csB i ++ [cBa i]).length ≤ 20 := by rw [List.length_append, csB_len, List.length_singleton]; omega
      have cA := hide (add_c Bp cap capc5 a' ac5 tsB (csB i ++ [cBa i]) cBx schB hl5 w5 C5)
      clear C5
      by_cases h6 : i < 6
      · rw [(addB_ok h6).2.1, errE_zero] at cA
        go_wp2_with fail
        refine (unhide cA).mono ?_
        rintro e w6 ⟨rfl, hleft, -, hbel⟩
        clear cA
        have bw6 := bw5.trans (hbel w.heap.size hBp)
        obtain ⟨ac6, capc6, C6⟩ := add_got hleft rfl rfl
        clear hleft hbel bw5
        have hl6 : (csB i ++ [cBa i] ++ [cBx]).length ≤ 20 := by rw [List.length_append, List.length_append, csB_len, List.length_singleton, List.length_singleton]; omega
        have cA := hide (add_c Bp cap capc6 a' ac6 tsB (csB i ++ [cBa i] ++ [cBx]) cBy schB hl6 w6 C6)
        rw [(addB_ok h6).2.2, errE_zero] at cA
        clear C6
        go_wp2_with fail
        refine (unhide cA).mono ?_
        rintro e w7 ⟨rfl, hleft, -, hbel⟩
        clear cA
        have bw7 := bw6.trans (hbel w.heap.size hBp)
        have C7 := hide (add_got hleft rfl (show csB (i + 1) = csB i ++ [cBa i] ++ [cBx] ++ [cBy] from rfl))
        clear hleft hbel bw6
        go_wp2_with fail
        exact ⟨⟨i + 1, by omega, by omega, rfl, by go_num, C7, bw7⟩, by simp [intOf]; omega⟩
      · obtain rfl : i = 6 := by omega
        rw [addB_no, show errE 12 = errV 12 from rfl] at cA
        go_wp2_with fail
        refine (unhide cA).mono ?_
        rintro e w6 ⟨rfl, -, -, hbel⟩
        clear cA
        have bw6 := bw5.trans (hbel w.heap.size hBp)
        go_wp2_with fail
        go_ret
        exact ⟨rfl, bw6⟩
    · obtain rfl : i = k0 + 1 := by omega
      have cW := hide (now_c Bp cap capc a' ac tsB (csB (k0 + 1)) wr C)
      obtain ⟨m, hm⟩ : ∃ m : Nat, m = 3 * (k0 + 1) + 1 := ⟨_, rfl⟩
      rw [csB_len, ← hm] at cW
      have hmb : (m : Int) ≤ 19 := by omega
      replace hm := hide hm
      have hm0 : 0 ≤ n1 % ((m : Int) + 1) := Int.emod_nonneg _ (by omega)
      have hm1 : n1 % ((m : Int) + 1) < (m : Int) + 1 := Int.emod_lt_of_pos _ (by omega)
      obtain ⟨v, hvk, hv⟩ : ∃ v : Nat, v ≤ m ∧ n1 % ((m : Int) + 1) = v := ⟨(n1 % ((m : Int) + 1)).toNat, by omega, by omega⟩
      clear hm0 hm1
      go_wp2_with fail
      refine (unhide cW).mono ?_
      rintro e w9 ⟨rfl, ew⟩
      rw [ew]
      clear ew w9
      go_upto_region 18 with fail
      rw [hv]
      clear hv
      go_wp2_with fail
      refine (unhide cW).mono ?_
      rintro e w9 ⟨rfl, ew⟩
      rw [ew]
      clear ew w9
      have cB := hide (chBack_c Bp cap capc a' ac tsB (csB (k0 + 1)) (t1 97) (fB (k0 + 1)) v m schB (by rw [csB_len]; omega) wr C)
      by_cases hv0 : v = 0
      · subst hv0
        rw [show ((0 : Nat) : Int) = 0 from rfl, unhide hm, backB_0 (by omega) (by omega), ← unhide hm] at cB
        go_wp2_with fail
        refine (unhide cB).mono ?_
        rintro e w10 ⟨rfl, hb10⟩
        have bw10 := hb.trans (hb10.mono hb.size)
        clear cB cW
        go_wp2_with fail
        go_ret
        exact ⟨rfl, bw10⟩
      · have hv1 : 1 ≤ (v : Int) := by omega
        rw [unhide hm, backB_v (by omega) (by omega) (by omega) (by have := unhide hm; omega), ← unhide hm] at cB
        go_wp2_with fail
        refine (unhide cB).mono ?_
        rintro e w10 ⟨rfl, hb10⟩
        have bw10 := hb.trans (hb10.mono hb.size)
        have C10 := (C.on hb10).mono hb10.size
        clear cB cW C
        have cW := hide (now_c Bp cap capc a' ac tsB (csB (k0 + 1)) w10 C10)
        rw [csB_len, ← unhide hm] at cW
        have cB := hide (chBack_c Bp cap capc a' ac tsB (csB (k0 + 1)) (t1 98) (t1 120) v m schB (by rw [csB_len]; omega) w10 C10)
        obtain ⟨cx, hcx, ex⟩ := backX_v (k := k0 + 1) (v := v) (by omega) (by omega) (by omega) (by have := unhide hm; omega)
        rw [unhide hm, ex, ← unhide hm] at cB
        clear ex C10
        have hvb : (v : Int) ≤ 19 := by omega
        obtain ⟨r, hr⟩ : ∃ r, r = wasB v := ⟨_, rfl⟩
        rw [← hr]
        replace hr := hide hr
        go_wp2_with fail
        refine (unhide cW).mono ?_
        rintro e w11 ⟨rfl, ew⟩
        rw [ew]
        clear ew w11 cW
        go_wp2_with fail
        refine (unhide cB).mono ?_
        rintro e w11 ⟨rfl, hb11⟩
        clear cB
        have bw11 := bw10.trans (hb11.mono bw10.size)
        have hq : 0 ≤ ((v : Int) + 1) / 3 := by omega
        have hq' : ((v : Int) + 1) / 3 ≤ 7 := by omega
        have hcv := conv1 w11 (97 + ((v : Int) + 1) / 3)
        go_upto_region 23 with fail
        have bc : Below w11.heap.size w11 (w11.alloc (.cells #[.int .u8 (97 + ((v : Int) + 1) / 3)] 5)) := (Below.refl _ _).alloc (Nat.le_refl _) _
        have bw12 := bw11.trans (bc.mono bw11.size)
        clear bc bw11 bw10 hb10 hb11 hcv hb
        obtain ⟨w12, hw12⟩ : ∃ w12, w12 = w11.alloc (.cells #[.int .u8 (97 + ((v : Int) + 1) / 3)] 5) := ⟨_, rfl⟩
        rw [← hw12] at bw12 ⊢
        clear hw12
        by_cases h3 : (v - 1) % 3 = 0
        · have h3' : ((v : Int) - 1) % 3 = 0 := by omega
          have hrv : r = (v - 1) / 3 := by rw [unhide hr, wasB, if_pos h3]
          clear hr h3 hq hq'
          have hq : 0 ≤ ((v : Int) - 1) / 3 := by omega
          have hq' : ((v : Int) - 1) / 3 ≤ 7 := by omega
          have hcv := conv1 w12 (97 + ((v : Int) - 1) / 3)
          have bc : Below w12.heap.size w12 (w12.alloc (.cells #[.int .u8 (97 + ((v : Int) - 1) / 3)] 5)) := (Below.refl _ _).alloc (Nat.le_refl _) _
          have bw13 := bw12.trans (bc.mono bw12.size)
          replace hrv := hide hrv
          go_upto_region 25 with fail
          rw [str_f (i := r) (show (97 : Int) + ((v : Int) - 1) / 3 = 97 + (r : Int) by have := unhide hrv; omega)]
          rcases hcx with rfl | rfl
          · go_wp2_with fail
            go_ret
            exact ⟨rfl, bw13⟩
          · go_wp2_with fail
            go_ret
            exact ⟨rfl, bw13⟩
        · have h3' : ((v : Int) - 1) % 3 ≠ 0 := by omega
          have hrv : r = (v + 1) / 3 := by rw [unhide hr, wasB, if_neg h3]
          clear hr h3
          rw [str_f (i := r) (show (97 : Int) + ((v : Int) + 1) / 3 = 97 + (r : Int) by omega)]
          clear hrv
          go_upto_region 25 with fail
          rcases hcx with rfl | rfl
          · go_wp2_with fail
            go_ret
            exact ⟨rfl, bw12⟩
          · go_wp2_with fail
            go_ret
            exact ⟨rfl, bw12⟩

end Go.Proofs.YtcjpaldijngnpaaGreat
