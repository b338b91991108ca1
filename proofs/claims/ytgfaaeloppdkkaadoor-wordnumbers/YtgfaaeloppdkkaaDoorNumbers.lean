/-
  What WordNumbers answers of every number: true; in whatever world in which the package variables stand.
-/
import Derived.Test.YtgfaaeloppdkkaaDoorNat
namespace Go.Proofs.YtgfaaeloppdkkaaDoor
open Go.RowKit Go.Shelf

theorem cutN1 (w : World) (hV : Vars w) : Calls Tryd.prog 10 #[.string ⟨#[57, 50, 50, 51, 51, 55, 50, 48, 51, 54, 56, 53, 52, 55, 55, 53, 56, 48, 56]⟩] w fun e W' => ∃ a cap, e = .returned (.tuple #[.slice a 0 cap, errV 12]) ∧ Below w.heap.size w W' :=
  cut_err ⟨#[57, 50, 50, 51, 51, 55, 50, 48, 51, 54, 56, 53, 52, 55, 55, 53, 56, 48, 56]⟩ w hV (by decide) 12 numK1 (by decide)
theorem cutN2 (w : World) (hV : Vars w) : Calls Tryd.prog 10 #[.string ⟨#[45, 57, 50, 50, 51, 51, 55, 50, 48, 51, 54, 56, 53, 52, 55, 55, 53, 56, 48, 57]⟩] w fun e W' => ∃ a cap, e = .returned (.tuple #[.slice a 0 cap, errV 12]) ∧ Below w.heap.size w W' :=
  cut_err ⟨#[45, 57, 50, 50, 51, 51, 55, 50, 48, 51, 54, 56, 53, 52, 55, 55, 53, 56, 48, 57]⟩ w hV (by decide) 12 numK2 (by decide)
theorem cutN3 (w : World) (hV : Vars w) : Calls Tryd.prog 10 #[.string ⟨#[57, 50, 50, 51, 51, 55, 50, 48, 51, 54, 56, 53, 52, 55, 55, 53, 56, 48, 55]⟩] w fun e W' => ∃ g cap, e = .returned (.tuple #[.slice (some ⟨g, 0, none⟩) 1 cap, .nilIface]) ∧ W'.cell? ⟨g, 0, none⟩ = some (.int .i64 2) ∧ Below w.heap.size w W' := by
  refine (cut_ok ⟨#[57, 50, 50, 51, 51, 55, 50, 48, 51, 54, 56, 53, 52, 55, 55, 53, 56, 48, 55]⟩ w hV (by decide) _ numK3 rfl (by decide)).mono ?_
  rintro e W' ⟨g, cap, rfl, ⟨_, _, hq⟩, hb⟩
  exact ⟨g, cap, rfl, unhide hq 0 _ rfl, hb⟩
theorem cutN4 (w : World) (hV : Vars w) : Calls Tryd.prog 10 #[.string ⟨#[45, 57, 50, 50, 51, 51, 55, 50, 48, 51, 54, 56, 53, 52, 55, 55, 53, 56, 48, 56]⟩] w fun e W' => ∃ g cap, e = .returned (.tuple #[.slice (some ⟨g, 0, none⟩) 1 cap, .nilIface]) ∧ W'.cell? ⟨g, 0, none⟩ = some (.int .i64 2) ∧ Below w.heap.size w W' := by
  refine (cut_ok ⟨#[45, 57, 50, 50, 51, 51, 55, 50, 48, 51, 54, 56, 53, 52, 55, 55, 53, 56, 48, 56]⟩ w hV (by decide) _ numK4 rfl (by decide)).mono ?_
  rintro e W' ⟨g, cap, rfl, ⟨_, _, hq⟩, hb⟩
  exact ⟨g, cap, rfl, unhide hq 0 _ rfl, hb⟩
theorem cut_dec (n : Int) (lo : -9223372036854775808 ≤ n) (hi : n ≤ 9223372036854775807) (w : World) (hV : Vars w) :
    Calls Tryd.prog 10 #[.string (decB n)] w fun e W' => ∃ g cap, e = .returned (.tuple #[.slice (some ⟨g, 0, none⟩) 1 cap, .nilIface]) ∧ (W'.cell? ⟨g, 0, none⟩ = some (.int .i64 2) ∧ W'.cell? ⟨g, 2, none⟩ = some (.int .i64 n) ∧ W'.cell? ⟨g, 3, none⟩ = some (.int .i64 0)) ∧ Below w.heap.size w W' := by
  refine (cut_ok (decB n) w hV (Nat.le_trans (decB_size n lo hi) (by decide)) _ (cutL_dec n lo hi) rfl (by simp)).mono ?_
  rintro e W' ⟨g, cap, rfl, ⟨_, _, hq⟩, hb⟩
  exact ⟨g, cap, rfl, ⟨unhide hq 0 _ rfl, unhide hq 2 _ rfl, unhide hq 3 _ rfl⟩, hb⟩
theorem pkN0 (w : World) : (Instr.index 38 (.agg #[.string ⟨#[57, 50, 50, 51, 51, 55, 50, 48, 51, 54, 56, 53, 52, 55, 55, 53, 56, 48, 56]⟩, .string ⟨#[45, 57, 50, 50, 51, 51, 55, 50, 48, 51, 54, 56, 53, 52, 55, 55, 53, 56, 48, 57]⟩]) (.int .u8 0)).run Tryd.prog w = .ok (.string ⟨#[57, 50, 50, 51, 51, 55, 50, 48, 51, 54, 56, 53, 52, 55, 55, 53, 56, 48, 56]⟩) w := by kernel_rfl
theorem pkN1 (w : World) : (Instr.index 38 (.agg #[.string ⟨#[57, 50, 50, 51, 51, 55, 50, 48, 51, 54, 56, 53, 52, 55, 55, 53, 56, 48, 56]⟩, .string ⟨#[45, 57, 50, 50, 51, 51, 55, 50, 48, 51, 54, 56, 53, 52, 55, 55, 53, 56, 48, 57]⟩]) (.int .u8 1)).run Tryd.prog w = .ok (.string ⟨#[45, 57, 50, 50, 51, 51, 55, 50, 48, 51, 54, 56, 53, 52, 55, 55, 53, 56, 48, 57]⟩) w := by kernel_rfl
theorem pkM0 (w : World) : (Instr.index 38 (.agg #[.string ⟨#[57, 50, 50, 51, 51, 55, 50, 48, 51, 54, 56, 53, 52, 55, 55, 53, 56, 48, 55]⟩, .string ⟨#[45, 57, 50, 50, 51, 51, 55, 50, 48, 51, 54, 56, 53, 52, 55, 55, 53, 56, 48, 56]⟩]) (.int .u8 0)).run Tryd.prog w = .ok (.string ⟨#[57, 50, 50, 51, 51, 55, 50, 48, 51, 54, 56, 53, 52, 55, 55, 53, 56, 48, 55]⟩) w := by kernel_rfl
theorem pkM1 (w : World) : (Instr.index 38 (.agg #[.string ⟨#[57, 50, 50, 51, 51, 55, 50, 48, 51, 54, 56, 53, 52, 55, 55, 53, 56, 48, 55]⟩, .string ⟨#[45, 57, 50, 50, 51, 51, 55, 50, 48, 51, 54, 56, 53, 52, 55, 55, 53, 56, 48, 56]⟩]) (.int .u8 1)).run Tryd.prog w = .ok (.string ⟨#[45, 57, 50, 50, 51, 51, 55, 50, 48, 51, 54, 56, 53, 52, 55, 55, 53, 56, 48, 56]⟩) w := by kernel_rfl

set_option maxRecDepth 100000 in
set_option maxHeartbeats 4000000 in
theorem numbers5_c (n z : Int) (more : Bool) (lo : -9223372036854775808 ≤ n) (hi : n ≤ 9223372036854775807) (lo1 : 0 ≤ z) (hi1 : z ≤ 255) (w : World) (hV : Vars w) :
    Calls Tryd.prog 5 #[.int .i64 n, .int .u8 z, .bool more] w fun e w' => e = .returned (.bool true) ∧ Below w.heap.size w w' := by
  have HI := hide (show ∀ w, Calls Tryd.prog 14 #[errV 12, errV 12] w fun e w' => e = .returned (.bool true) ∧ w' = w from fun w => errIs_c 12 12 w)
  have HD := hide (dec13_c n lo hi)
  cases more
  · have HC := hide (cut_dec n lo hi)
    go_enter Tryd.func5, Tryd.ntmps5
    go_wp2_with fail
    refine (known9_c _ hV).mono ?_
    rintro e w1 ⟨rfl, hb1⟩
    go_wp2_with fail
    refine (unhide HD _).mono ?_
    rintro e w2 ⟨rfl, hb2⟩
    have hV2 := (hV.up hb1).up hb2
    go_wp2_with fail
    refine (unhide HC _ hV2).mono ?_
    rintro e w3 ⟨g, cap, rfl, ⟨hc0, hc2, hc3⟩, hb3⟩
    go_wp2_with fail
    go_ret
    exact ⟨rfl, hb1.trans ((hb2.trans (hb3.mono hb2.size)).mono hb1.size)⟩
  · have hz : z % 2 = 0 ∨ z % 2 = 1 := by omega
    rcases hz with hz | hz
    · have p1 := pkN0
      have p2 := pkM0
      go_enter Tryd.func5, Tryd.ntmps5
      go_wp2_with fail
      refine (known9_c _ hV).mono ?_
      rintro e w1 ⟨rfl, hb1⟩
      go_wp2_with fail
      refine (unhide HD _).mono ?_
      rintro e w2 ⟨rfl, hb2⟩
      have hV2 := (hV.up hb1).up hb2
      go_wp2_with fail
      refine (cutN1 _ hV2).mono ?_
      rintro e w3 ⟨a3, c3, rfl, hb3⟩
      go_wp2_with fail
      refine (cutN3 _ (hV2.up hb3)).mono ?_
      rintro e w4 ⟨g4, c4, rfl, hc0, hb4⟩
      have hbz := hide (show Below w.heap.size w w4 from hb1.trans ((hb2.trans ((hb3.trans (hb4.mono hb3.size)).mono hb2.size)).mono hb1.size))
      go_wp2_with fail
      refine (unhide HI _).mono ?_
      rintro e w5 ⟨rfl, rfl⟩
      go_wp2_with fail
      go_ret
      exact ⟨rfl, unhide hbz⟩
    · have p1 := pkN1
      have p2 := pkM1
      go_enter Tryd.func5, Tryd.ntmps5
      go_wp2_with fail
      refine (known9_c _ hV).mono ?_
      rintro e w1 ⟨rfl, hb1⟩
      go_wp2_with fail
      refine (unhide HD _).mono ?_
      rintro e w2 ⟨rfl, hb2⟩
      have hV2 := (hV.up hb1).up hb2
      go_wp2_with fail
      refine (cutN2 _ hV2).mono ?_
      rintro e w3 ⟨a3, c3, rfl, hb3⟩
      go_wp2_with fail
      refine (cutN4 _ (hV2.up hb3)).mono ?_
      rintro e w4 ⟨g4, c4, rfl, hc0, hb4⟩
      have hbz := hide (show Below w.heap.size w w4 from hb1.trans ((hb2.trans ((hb3.trans (hb4.mono hb3.size)).mono hb2.size)).mono hb1.size))
      go_wp2_with fail
      refine (unhide HI _).mono ?_
      rintro e w5 ⟨rfl, rfl⟩
      go_wp2_with fail
      go_ret
      exact ⟨rfl, unhide hbz⟩

end Go.Proofs.YtgfaaeloppdkkaaDoor
