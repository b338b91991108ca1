/-
  The walk of ChainMany: true for every number, in whatever world; nothing that lay is turned.
-/
import Derived.Test.YtcjpaldijngnpaaGreatLawKnown
namespace Go.Proofs.YtcjpaldijngnpaaGreat
open Go.RowKit Go.Shelf

theorem new_got {n : Nat} {ts : List Ty} {ls : List Ch} {e : Ending} {W : World} (hS : Sch ts) (h0 : addAll ts [] ls = 0) (h : Hid ((¬ Sch ts ∧ NewLeft 10 n ts ls e W) ∨ (Sch ts ∧ NewLeft (addAll ts [] ls) n ts ls e W))) :
    ∃ (Bp : Nat) (a' ac : Option Addr) (cap capc : Nat), e = .returned (.tuple #[.pointer (some ⟨Bp, 0, none⟩), .nilIface]) ∧ n ≤ Bp ∧ IsCh W.heap.size W Bp a' ac cap capc ts ls := by
  rcases unhide h with ⟨hno, -⟩ | ⟨-, hN2⟩
  · exact absurd hS hno
  rw [h0] at hN2
  rcases hN2 with ⟨-, Bp, a', ac, cap, capc, e, hBp, -, C⟩ | ⟨h, -⟩
  · exact ⟨Bp, a', ac, cap, capc, e, hBp, C⟩
  · exact absurd rfl h
theorem add_got {r : Int} {Bp cap capc : Nat} {a ac : Option Addr} {ts : List Ty} {cs cs' : List Ch} {c : Ch} {W : World} (h : AddLeft r Bp cap capc a ac ts cs c W) (h0 : r = 0) (hcs : cs' = cs ++ [c]) : ∃ ac' capc', IsCh W.heap.size W Bp a ac' cap capc' ts cs' := by
  unfold AddLeft at h
  rw [if_pos h0] at h
  rw [hcs]
  exact h
theorem add_not {r : Int} {Bp cap capc : Nat} {a ac : Option Addr} {ts : List Ty} {cs cs' : List Ch} {c : Ch} {W : World} (h : AddLeft r Bp cap capc a ac ts cs c W) (h0 : r ≠ 0) (hcs : cs' = cs) : ∃ ac' capc', IsCh W.heap.size W Bp a ac' cap capc' ts cs' := by
  unfold AddLeft at h
  rw [if_neg h0] at h
  rw [hcs]
  exact ⟨_, _, h⟩

set_option maxRecDepth 100000 in
set_option maxHeartbeats 8000000 in
theorem many_walk (n0 : Int) (h0 : 0 ≤ n0) (h1 : n0 ≤ 255) (w : World) : Calls Tryz.prog 3 #[.int .u8 n0] w fun e w' => e = .returned (.bool true) ∧ Below w.heap.size w w' := by
  have cK := hide (known_c w)
  obtain ⟨k, hk25, hk⟩ : ∃ m : Nat, m < 25 ∧ n0 % 25 = (m : Int) := ⟨(n0 % 25).toNat, by omega, by omega⟩
  go_enter Tryz.func3, Tryz.ntmps3
  go_wp2_with fail
  refine (unhide cK).mono ?_
  rintro r w1 ⟨rfl, hb1⟩
  clear cK
  have bA : Below w1.heap.size w1 (w1.alloc (.cells #[.string ⟨#[97]⟩, .slice none 0 0] 30)) := (Below.refl _ _).alloc (Nat.le_refl _) _
  have x0 := Box.new w1 30 #[.string ⟨#[97]⟩, .slice none 0 0]
  have T : Typs (w1.alloc (.cells #[.string ⟨#[97]⟩, .slice none 0 0] 30)).heap.size (w1.alloc (.cells #[.string ⟨#[97]⟩, .slice none 0 0] 30)) (some ⟨w1.heap.size, 0, none⟩) tsM := by
    refine .inr ⟨w1.heap.size, 0, rfl, x0.lt, fun j hj => ?_⟩
    match j, hj with
    | 0, _ => exact ⟨x0.at 0 rfl, none, 0, x0.at 1 rfl, .inl rfl, by decide⟩
  have cN := hide (new_c (some ⟨w1.heap.size, 0, none⟩) none 1 0 tsM [] (by decide) (by decide) _ T (.inl rfl))
  have bw1 := hb1.trans (bA.mono hb1.size)
  clear T x0
  go_wp2_with fail
  refine (unhide cN).mono ?_
  rintro e w2 ⟨hb2, hN⟩
  clear cN
  have bw2 := bw1.trans (hb2.mono bw1.size)
  obtain ⟨Bp, a', ac, cap, capc, rfl, hBp, C2⟩ := new_got schM (show addAll tsM [] [] = 0 from rfl) hN
  replace hBp := Nat.le_trans bw1.size hBp
  clear hb2 hN bA hb1 bw1
  go_upto_region 7 with fail
  rw [hk]
  clear hk
  have C2h := hide (show ∃ ac capc, IsCh w2.heap.size w2 Bp a' ac cap capc tsM (csM 0) from ⟨ac, capc, C2⟩)
  clear C2
  go_wp2_with fail
  go_loopw [6] (fun iv wr => ∃ i : Nat, i ≤ k ∧ iv = .int .i64 i ∧ Hid (∃ ac capc, IsCh wr.heap.size wr Bp a' ac cap capc tsM (csM i)) ∧ Below w.heap.size w wr) (fun i _ => k - (intOf i).toNat)
  case atStart => exact ⟨0, Nat.zero_le _, rfl, C2h, bw2⟩
  case round =>
    obtain ⟨i, hik, rfl, hC, hb⟩ := hrel
    obtain ⟨ac, capc, C⟩ := unhide hC
    clear hC C2h
    by_cases hlt : i < k
    · have hlt' : (i : Int) < k := by omega
      obtain ⟨wx, hwx⟩ : ∃ wx, wx = wr.alloc (.cells cM0.cs 37) := ⟨_, rfl⟩
      have bx : Below wr.heap.size wr wx := by rw [hwx]; exact (Below.refl _ _).alloc (Nat.le_refl _) _
      have x7 : Box wx wr.heap.size 37 cM0.cs := by rw [hwx]; exact Box.new _ _ _
      go_upto_region 11 with fail
      rw [show Obj.cells #[Value.int .i64 1, .string ⟨#[97]⟩, .string ⟨#[102]⟩, .string ⟨#[]⟩, .int .i64 1, .int .i64 0, .string ⟨#[]⟩] 37 = Obj.cells cM0.cs 37 from rfl, ← hwx]
      clear hwx
      by_cases hp : i % 2 = 1
      · have hp' : (i : Int) % 2 = 1 := by omega
        obtain ⟨hd0, hd1, hd2, hd3, hd4, hd5, hd6⟩ := x7.seven
        have hf := x7.frz
        obtain ⟨wy, hwy⟩ : ∃ wy, wy = ((((((wx.setCell ⟨wr.heap.size, 0, none⟩ (.int .i64 2)).setCell ⟨wr.heap.size, 1, none⟩ (.string ⟨#[97]⟩)).setCell ⟨wr.heap.size, 2, none⟩ (.string ⟨#[102]⟩)).setCell ⟨wr.heap.size, 3, none⟩ (.string ⟨#[]⟩)).setCell ⟨wr.heap.size, 4, none⟩ (.int .i64 0)).setCell ⟨wr.heap.size, 5, none⟩ (.int .i64 0)).setCell ⟨wr.heap.size, 6, none⟩ (.string ⟨#[]⟩) := ⟨_, rfl⟩
        have y7 : Box wy wr.heap.size 37 cM1.cs := by
          rw [hwy]
          exact ((((((x7.set 0 (.int .i64 2)).set 1 (.string ⟨#[97]⟩)).set 2 (.string ⟨#[102]⟩)).set 3 (.string ⟨#[]⟩)).set 4 (.int .i64 0)).set 5 (.int .i64 0)).set 6 (.string ⟨#[]⟩)
        have by7 : Below wr.heap.size wr wy := by
          rw [hwy]
          exact ((((((bx.setCell (p := ⟨wr.heap.size, 0, none⟩) (Nat.le_refl _) _).setCell (p := ⟨wr.heap.size, 1, none⟩) (Nat.le_refl _) _).setCell (p := ⟨wr.heap.size, 2, none⟩) (Nat.le_refl _) _).setCell (p := ⟨wr.heap.size, 3, none⟩) (Nat.le_refl _) _).setCell (p := ⟨wr.heap.size, 4, none⟩) (Nat.le_refl _) _).setCell (p := ⟨wr.heap.size, 5, none⟩) (Nat.le_refl _) _).setCell (p := ⟨wr.heap.size, 6, none⟩) (Nat.le_refl _) _
        go_upto_region 13 with fail
        rw [← hwy]
        clear hwy hd0 hd1 hd2 hd3 hd4 hd5 hd6 hf x7 bx
        obtain ⟨hc0, hc1, hc2, hc3, hc4, hc5, hc6⟩ := y7.seven
        have hxi : xM i = cM1 := by rw [xM, if_pos hp]
        have Cy := (C.on by7).mono by7.size
        have cA := hide (add_c Bp cap capc a' ac tsM (csM i) cM1 schM (by rw [csM_len]; omega) wy Cy)
        have bwy := hb.trans (by7.mono hb.size)
        replace hp := hide hp
        replace hp' := hide hp'
        clear C Cy
        go_wp2_with fail
        refine (unhide cA).mono ?_
        rintro e w5 ⟨rfl, hleft, -, hbel⟩
        clear cA hc0 hc1 hc2 hc3 hc4 hc5 hc6
        have bw5 := bwy.trans (hbel w.heap.size hBp)
        clear hbel by7 y7
        by_cases h20 : i < 20
        · have hr : addR tsM (csM i) cM1 = 0 := by have := addM_ok h20; rwa [hxi] at this
          have h20' : (i : Int) < 20 := by omega
          have C5 := hide (add_got hleft hr (show csM (i + 1) = csM i ++ [cM1] by rw [csM_succ h20, hxi]))
          rw [hr, errE_zero]
          clear hr hleft
          go_wp2_with fail
          exact ⟨⟨i + 1, by omega, by go_num, C5, bw5⟩, by simp [intOf]; omega⟩
        · have hr : addR tsM (csM i) cM1 = 12 := addM_no (by omega) _
          have h20' : (20 : Int) ≤ i := by omega
          have C5 := hide (add_not hleft (by rw [hr]; decide) (csM_stay (k := i) (by omega)))
          rw [hr, show errE 12 = errV 12 from rfl]
          clear hr hleft
          go_wp2_with fail
          refine (errIs_c 12 12 _).mono ?_
          rintro e w6 ⟨rfl, rfl⟩
          go_wp2_with fail
          exact ⟨⟨i + 1, by omega, by go_num, C5, bw5⟩, by simp [intOf]; omega⟩
      · have hp' : (i : Int) % 2 = 0 := by omega
        obtain ⟨wy, hwy⟩ : ∃ wy, wy = wx := ⟨_, rfl⟩
        have y7 : Box wy wr.heap.size 37 cM0.cs := by rw [hwy]; exact x7
        have by7 : Below wr.heap.size wr wy := by rw [hwy]; exact bx
        rw [← hwy]
        clear hwy x7 bx wx
        go_upto_region 13 with fail
        obtain ⟨hc0, hc1, hc2, hc3, hc4, hc5, hc6⟩ := y7.seven
        have hxi : xM i = cM0 := by rw [xM, if_neg hp]
        have Cy := (C.on by7).mono by7.size
        have cA := hide (add_c Bp cap capc a' ac tsM (csM i) cM0 schM (by rw [csM_len]; omega) wy Cy)
        have bwy := hb.trans (by7.mono hb.size)
        replace hp := hide hp
        replace hp' := hide hp'
        clear C Cy
        go_wp2_with fail
        refine (unhide cA).mono ?_
        rintro e w5 ⟨rfl, hleft, -, hbel⟩
        clear cA hc0 hc1 hc2 hc3 hc4 hc5 hc6
        have bw5 := bwy.trans (hbel w.heap.size hBp)
        clear hbel by7 y7
        by_cases h20 : i < 20
        · have hr : addR tsM (csM i) cM0 = 0 := by have := addM_ok h20; rwa [hxi] at this
          have h20' : (i : Int) < 20 := by omega
          have C5 := hide (add_got hleft hr (show csM (i + 1) = csM i ++ [cM0] by rw [csM_succ h20, hxi]))
          rw [hr, errE_zero]
          clear hr hleft
          go_wp2_with fail
          exact ⟨⟨i + 1, by omega, by go_num, C5, bw5⟩, by simp [intOf]; omega⟩
        · have hr : addR tsM (csM i) cM0 = 12 := addM_no (by omega) _
          have h20' : (20 : Int) ≤ i := by omega
          have C5 := hide (add_not hleft (by rw [hr]; decide) (csM_stay (k := i) (by omega)))
          rw [hr, show errE 12 = errV 12 from rfl]
          clear hr hleft
          go_wp2_with fail
          refine (errIs_c 12 12 _).mono ?_
          rintro e w6 ⟨rfl, rfl⟩
          go_wp2_with fail
          exact ⟨⟨i + 1, by omega, by go_num, C5, bw5⟩, by simp [intOf]; omega⟩
    · obtain rfl : i = k := by omega
      have cW := hide (now_c Bp cap capc a' ac tsM (csM i) wr C)
      rw [csM_len] at cW
      clear C
      go_wp2_with fail
      refine (unhide cW).mono ?_
      rintro e w9 ⟨rfl, rfl⟩
      clear cW
      by_cases h20 : i < 20
      · have h20' : (i : Int) < 20 := by omega
        rw [show min i 20 = i by omega]
        go_wp2_with fail
        go_ret
        refine ⟨?_, hb⟩
        show Ending.returned (Value.bool ((i : Int) == min (i : Int) 20)) = _
        rw [show min (i : Int) 20 = i by omega, beq_self_eq_true]
      · have h20' : (20 : Int) ≤ i := by omega
        rw [show min i 20 = 20 by omega]
        go_wp2_with fail
        go_ret
        refine ⟨?_, hb⟩
        show Ending.returned (Value.bool ((20 : Int) == min (i : Int) 20)) = _
        rw [show min (i : Int) 20 = 20 by omega, beq_self_eq_true]

end Go.Proofs.YtcjpaldijngnpaaGreat
