/-
  Proved: for every kind the call of ValueZeros returns true, and the kind reads behind it as it read before; no condition.
-/
import Derived.Test.YthejndgnnlflhaaKnown
import Derived.ProofKit
import Derived.OpenShut
namespace Go.Proofs.Ythejndgnnlflhaa.valueZeros
open Go.ChangeShapes Go.WideShapes Go.ChangeAt Go.RowKit

theorem own : ownKnob Try.prog.godebug = none := by kernel_rfl

theorem is_zero (k : Int) (h : 1 ≤ k ∧ k ≤ 3) : isB k 0 ⟨#[]⟩ = true := by
  have e1 : isB 1 0 ⟨#[]⟩ = true := by kernel_rfl
  have e2 : isB 2 0 ⟨#[]⟩ = true := by kernel_rfl
  have e3 : isB 3 0 ⟨#[]⟩ = true := by kernel_rfl
  obtain rfl | rfl | rfl : k = 1 ∨ k = 2 ∨ k = 3 := by omega
  · exact e1
  · exact e2
  · exact e3
theorem is_none : isB 0 0 ⟨#[]⟩ = false := by kernel_rfl

set_option maxHeartbeats 1000000 in
theorem walk (k : Int) (w : World) : Calls Try.prog 7 #[.int .i64 k] w fun e w' => e = .returned (.bool true) ∧ Below w.heap.size w w' := by
  by_cases h : 1 ≤ k ∧ k ≤ 3
  · have hz : zeroK k = k := by unfold zeroK; rw [if_pos (by omega)]
    have Hz := hide hz
    have Hi := hide (is_zero k h)
    have h1 : 1 ≤ k := h.1
    have h2 : k ≤ 3 := h.2
    clear hz h
    go_enter Try.func7, Try.ntmps7
    go_wp2_with fail
    refine (known8 _).mono ?_
    rintro e w1 ⟨rfl, hb1⟩
    go_wp2_with fail
    refine (zero12 k _).mono ?_
    rintro e w2 ⟨rfl, hb2⟩
    rw [unhide Hz]
    go_wp2_with fail
    refine (is9 _ _ _ _ (by decide)).mono ?_
    rintro e w3 ⟨rfl, hb3⟩
    rw [unhide Hi]
    have hc0 : w3.cell? ⟨w2.heap.size, 0, none⟩ = some (.int .i64 k) := (hb3.cell (p := ⟨w2.heap.size, 0, none⟩) (by simp)).trans (by simp)
    have hc1 : w3.cell? ⟨w2.heap.size, 1, none⟩ = some (.int .i64 0) := (hb3.cell (p := ⟨w2.heap.size, 1, none⟩) (by simp)).trans (by simp)
    have hc2 : w3.cell? ⟨w2.heap.size, 2, none⟩ = some (.string ⟨#[]⟩) := (hb3.cell (p := ⟨w2.heap.size, 2, none⟩) (by simp)).trans (by simp)
    go_wp2_with fail
    go_ret
    have b2 := hb1.trans (hb2.mono hb1.size)
    exact ⟨rfl, (b2.alloc b2.size _).trans (hb3.mono (b2.alloc b2.size _).size)⟩
  · have hz : zeroK k = 0 := by unfold zeroK; rw [if_neg (by omega)]
    have Hz := hide hz
    have Hh := hide h
    clear hz h
    by_cases hlt : k < 1
    all_goals
      have h3 := unhide Hh
      try have h2 : 3 < k := by omega
      clear h3
      go_enter Try.func7, Try.ntmps7
      go_wp2_with fail
      refine (known8 _).mono ?_
      rintro e w1 ⟨rfl, hb1⟩
      go_wp2_with fail
      refine (zero12 k _).mono ?_
      rintro e w2 ⟨rfl, hb2⟩
      rw [unhide Hz]
      go_wp2_with fail
      refine (is9 _ _ _ _ (by decide)).mono ?_
      rintro e w3 ⟨rfl, hb3⟩
      rw [is_none]
      go_wp2_with fail
      go_ret
      have b2 := hb1.trans (hb2.mono hb1.size)
      exact ⟨rfl, (b2.alloc b2.size _).trans (hb3.mono (b2.alloc b2.size _).size)⟩

set_option maxRecDepth 100000 in
theorem lifted (os : Os) (started : os.Started) (H : Type) (enc : TypeId × Value → H) :
    ReturnsInHanded {} Try.checked os 7 .any (Rows.valueZerosSpec.pre6 enc Try.prog Try.f7 Rows.valueZerosRow.domain false) (Rows.valueZerosSpec.post enc Try.prog Try.f7 false true false false) := by
  refine returnsInHanded_of_change (C := Try.checked) own started (by kernel_rfl) Try.func7
    (ChangeSpec.witness6 (enc := enc) (C := Try.checked) false ⟨#[], #[.int .i64 0], []⟩ 8 (by kernel_rfl) (by kernel_rfl) (by kernel_rfl) (by kernel_rfl)) ?_
  intro W base args ds gs before hval0 hW hcnd _
  have hval : ∀ (j : Nat) t v, Try.f7.params[j]? = some t → args[j]? = some v → Value.okWide Try.prog W .any base t v := hval0
  have hW' := hW
  obtain ⟨p, q, hA0, hV, rfl, hfz, hnd⟩ := hW
  have hA : DataW.TrodAll enc Try.prog W 0 (fun _ => true) true Try.f7.params.toList args.toList ds p := hA0
  rw [Try.params7] at hA hval
  obtain ⟨v0, vs0, d0, ds0, p0, q0, hargs, rfl, rfl, h0, r0⟩ := trodAll_cons hA
  obtain ⟨rfl, rfl, rfl⟩ := trodAll_nil r0
  obtain rfl : args = #[v0] := by cases args; simp_all
  obtain ⟨rfl, rfl⟩ := trodVars_none hV
  obtain ⟨a0, rfl, rfl, rfl, w0⟩ := open_int Try.underlying3 (hval 0 3 v0 rfl rfl) h0
  clear hA0 hval0
  simp only [List.append_nil] at hW'
  refine (walk a0 W).mono fun e W' ⟨he, bel⟩ => ?_
  subst he
  exact ⟨_, rfl, _, _, _, [], [], [], hW', trodAll_mk1 (shut_bool Try.underlying4 _), (trodAll_cons_mk (shut_int Try.underlying3 w0) trodAll_mk0), rfl, bel.frame _, fun h => by cases h⟩

theorem over : Rows.valueZerosRow.holds Try.pinned (OpenSpec.ofChange Rows.valueZerosSpec) :=
  OpenClaim.holds_of_wide 7 Try.f7 rfl rfl rfl rfl rfl rfl rfl ⟨rfl, rfl, rfl, rfl, rfl⟩ rfl rfl rfl rfl rfl (by kernel_rfl) Try.func7 (by kernel_rfl)
    (of_decide_eq_true (by kernel_rfl)) (by unfold Func.isWrapper; first | (rw [if_pos (by decide +kernel)]; kernel_rfl) | (rw [if_neg (by decide +kernel)]; exact ⟨rfl, rfl⟩))
    (fun os started H enc _ => lifted os started H enc)

end Go.Proofs.Ythejndgnnlflhaa.valueZeros

namespace Go.Proofs.Ythejndgnnlflhaa
theorem valueZeros_holds : Rows.ValueZerosSaid := valueZeros.over
end Go.Proofs.Ythejndgnnlflhaa
