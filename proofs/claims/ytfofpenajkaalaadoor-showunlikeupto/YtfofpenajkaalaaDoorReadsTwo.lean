/-
  A region that draws its order, where two operations are ready at once: both are walked.
-/
import Derived.Test.YtfofpenajkaalaaDoorReads
import Derived.Deep.CutRange
import Derived.Deep.DeepCutAuto
namespace Go.Proofs.YtfofpenajkaalaaDoor
open Go.RowKit

theorem wpAnyC_two {P : Program} {ops : Array Oper} {md : Region.Mode} {C : World → Prop} {Q : Exit → Act → World → Prop} (i j : Nat) {fuel : Nat} {listed : Array Bool} {a : Act} {w : World} (hr : Region.ready md ops listed = [i, j])
    (hi : ∀ oi, ops[i]? = some oi → ∀ K : Act → World → Prop, (∀ a' w', C w' → wpAnyC P md ops C Q fuel (listed.setIfInBounds i true) a' w' → K a' w') → if Region.wanted oi (yielded ops a.tmps) then Oper.wp P oi a w K Q else K (a.put oi.dst undef) w)
    (hj : ∀ oi, ops[j]? = some oi → ∀ K : Act → World → Prop, (∀ a' w', C w' → wpAnyC P md ops C Q fuel (listed.setIfInBounds j true) a' w' → K a' w') → if Region.wanted oi (yielded ops a.tmps) then Oper.wp P oi a w K Q else K (a.put oi.dst undef) w) : wpAnyC P md ops C Q (fuel + 1) listed a w := by
  refine ⟨fun h0 => (by rw [hr] at h0; cases h0), fun k hk => ?_⟩
  have hm := hk
  rw [hr] at hk
  obtain ⟨_, oi, ho, _⟩ := mem_ready.1 hm
  have step : ∀ (h : ∀ oi, ops[k]? = some oi → ∀ K : Act → World → Prop, (∀ a' w', C w' → wpAnyC P md ops C Q fuel (listed.setIfInBounds k true) a' w' → K a' w') → if Region.wanted oi (yielded ops a.tmps) then Oper.wp P oi a w K Q else K (a.put oi.dst undef) w), wpOp P ops Q k (fun a' w' => C w' ∧ wpAnyC P md ops C Q fuel (listed.setIfInBounds k true) a' w') a w := fun h => by
    have h := h oi ho (fun a' w' => C w' ∧ wpAnyC P md ops C Q fuel (listed.setIfInBounds k true) a' w') (fun a' w' h1 h2 => ⟨h1, h2⟩)
    unfold wpOp
    simp only [ho]
    by_cases hwt : Region.wanted oi (yielded ops a.tmps) = true
    · rw [if_pos hwt] at h ⊢; exact .inl h
    · rw [if_neg hwt] at h ⊢; exact h
  simp only [List.mem_cons, List.not_mem_nil, or_false] at hk
  rcases hk with rfl | rfl
  · exact step hi
  · exact step hj

end Go.Proofs.YtfofpenajkaalaaDoor
