/-
  What WordMany answers: true; in whatever world in which the package variables stand.
-/
import Derived.Test.YtgfaaeloppdkkaaDoorManyP
namespace Go.Proofs.YtgfaaeloppdkkaaDoor
open Go.RowKit Go.Shelf

set_option maxHeartbeats 400000 in
theorem bit15_c (b : Bool) (w : World) : Calls Tryd.prog 15 #[.bool b] w fun e w' => e = .returned (.int .i64 (if b then 1 else 0)) ∧ w' = w := by
  cases b
  all_goals
    go_enter Tryd.func15, Tryd.ntmps15
    go_wp2
    go_ret
    exact ⟨rfl, rfl⟩

def plusB (k : Nat) : ByteArray := ⟨(plusL k).toArray⟩
theorem plusB_size (k : Nat) : (plusB k).size = 2 * k := by
  rw [show (plusB k).size = (plusL k).length from List.size_toArray .., plusL_len]
theorem plusB_succ (k : Nat) : plusB k ++ ⟨#[43, 32]⟩ = plusB (k + 1) := eq_of_list (by rw [append_list]; exact (plusL_snoc k).symm)
def repB (c : UInt8) (k : Nat) : ByteArray := ⟨(List.replicate k c).toArray⟩
theorem repB_size (c : UInt8) (k : Nat) : (repB c k).size = k := by
  rw [show (repB c k).size = (List.replicate k c).length from List.size_toArray .., List.length_replicate]
theorem repB_succ (c : UInt8) (k : Nat) : repB c k ++ ⟨#[c]⟩ = repB c (k + 1) := eq_of_list (by rw [append_list]; exact (List.replicate_succ').symm)

theorem cut_plus_ok (k : Nat) (h1 : 1 ≤ k) (h2 : k ≤ 500) (w : World) (hV : Vars w) :
    Calls Tryd.prog 10 #[.string (plusB k)] w fun e W' => ∃ g cap, e = .returned (.tuple #[.slice (some ⟨g, 0, none⟩) k cap, .nilIface]) ∧ Below w.heap.size w W' := by
  have hl : (plusW k 0).length = k := by simp [plusW]
  refine (cut_ok (plusB k) w hV (by rw [plusB_size]; omega) (plusW k 0) (restL_plus k 0) (errL_all _ (plusW_words k 0) (by omega)) (by omega)).mono ?_
  rintro e W' ⟨g, cap, rfl, _, hb⟩
  exact ⟨g, cap, by rw [hl], hb⟩
theorem cut_plus_over (k : Nat) (h2 : 500 < k) (h3 : k ≤ 1000) (w : World) (hV : Vars w) :
    Calls Tryd.prog 10 #[.string (plusB k)] w fun e W' => ∃ a cap, e = .returned (.tuple #[.slice a 0 cap, errV 12]) ∧ Below w.heap.size w W' :=
  cut_err (plusB k) w hV (by rw [plusB_size]; omega) 12 (by rw [show cutL (plusB k).data.toList = plusW k 0 from restL_plus k 0]; exact errL_over _ (plusW_words k 0) (by simp [plusW]; omega)) (by decide)
theorem cut_rep_ok (c : UInt8) (kk : Int) (j : Nat) (hj : 1 ≤ j) (h8 : j ≤ 8) (hc : c.toNat ≠ 32) (hf : firstW (List.replicate j c) = if j ≤ 8 then .word kk (List.replicate j c) 0 j else .bad 12) (w : World) (hV : Vars w) :
    Calls Tryd.prog 10 #[.string (repB c j)] w fun e W' => ∃ g cap, e = .returned (.tuple #[.slice (some ⟨g, 0, none⟩) 1 cap, .nilIface]) ∧ W'.cell? ⟨g, 1, none⟩ = some (.string (repB c j)) ∧ Below w.heap.size w W' := by
  have hcu := cutL_rep c kk j hj hc hf
  rw [if_pos h8] at hcu
  refine (cut_ok (repB c j) w hV (by rw [repB_size]; omega) _ hcu rfl (by simp)).mono ?_
  rintro e W' ⟨g, cap, rfl, ⟨_, _, hq⟩, hb⟩
  exact ⟨g, cap, rfl, unhide hq 1 _ rfl, hb⟩
theorem cut_rep_over (c : UInt8) (kk : Int) (j : Nat) (h8 : ¬ j ≤ 8) (h3 : j ≤ 1000) (hc : c.toNat ≠ 32) (hf : firstW (List.replicate j c) = if j ≤ 8 then .word kk (List.replicate j c) 0 j else .bad 12) (w : World) (hV : Vars w) :
    Calls Tryd.prog 10 #[.string (repB c j)] w fun e W' => ∃ a cap, e = .returned (.tuple #[.slice a 0 cap, errV 12]) ∧ Below w.heap.size w W' := by
  have hcu := cutL_rep c kk j (by omega) hc hf
  rw [if_neg h8] at hcu
  exact cut_err (repB c j) w hV (by rw [repB_size]; omega) 12 (by rw [show cutL (repB c j).data.toList = _ from hcu]; rfl) (by decide)

theorem pick_a (w : World) : (Instr.index 38 (.agg #[.string ⟨#[97]⟩, .string ⟨#[65]⟩]) (.int .i64 0)).run Tryd.prog w = .ok (.string ⟨#[97]⟩) w := by kernel_rfl
theorem pick_A (w : World) : (Instr.index 38 (.agg #[.string ⟨#[97]⟩, .string ⟨#[65]⟩]) (.int .i64 1)).run Tryd.prog w = .ok (.string ⟨#[65]⟩) w := by kernel_rfl

end Go.Proofs.YtgfaaeloppdkkaaDoor
