/-
  A region within a round of a range over a function, by the walk of it anywhere: where nothing is deferred, and what follows lets nothing out.
-/
import Derived.Test.YtmhpakhnclkenaaGreatDoorReadsZ
import Derived.OrdersIn
namespace Go.Proofs.YtmhpakhnclkenaaGreatDoor
open Go.RowKit

section
variable {n l : Nat} {P : Program} {ops : Array Oper} {md : Region.Mode} {Q : Exit → Act → World → Prop}

/-- Nothing is deferred. -/
def noDefer (ops : Array Oper) : Bool := ops.all fun o => match o.op with | .defer _ => false | _ => true
theorem noDefer_spec (h : noDefer ops = true) (j : Nat) (o : Oper) (ho : ops[j]? = some o) (c : Call) : o.op ≠ .defer c := by
  intro e
  unfold noDefer at h
  rw [Array.all_eq_true'] at h
  have := h o (Array.mem_of_getElem? ho)
  rw [e] at this
  cases this
theorem rowsIn_wide {row : String} {args : Array Value} {w : World} {R : Value → World → Prop} (h : Rows P row args w R) : RowsIn (Fence.wide.inRound l) n P row args w R := fun c cs _ => by
  obtain ⟨v, w', r, s⟩ := h c cs
  exact ⟨v, w', r, stepsIn_wide.2 s⟩

theorem wpOpIn_of (hnd : noDefer ops = true) (hno : ¬ LetsOut Q) {i : Nat} {K : Act → World → Prop} {a : Act} {w : World} (h : wpOp P ops Q i K a w) : wpOpIn (Fence.wide.inRound l) n P ops Q i K a w := by
  unfold wpOp at h
  unfold wpOpIn
  cases hi : ops[i]? with
  | none => rw [hi] at h; exact h
  | some o =>
    rw [hi] at h
    dsimp only at h ⊢
    by_cases hw : Region.wanted o (yielded ops a.tmps) = true
    · rw [if_pos hw] at h ⊢
      rcases h with h | h
      · refine ⟨fun f _ => trivial, ?_⟩
        rw [Oper.semAt_eq _ _ _ (noDefer_spec hnd i o hi)]
        unfold Oper.wp at h
        revert h
        generalize (execOp a.eval o).run P w = res
        intro h
        rcases res with ⟨nx, w'⟩ | ⟨ht, w'⟩
        · cases nx with
          | value u => exact h
          | skip => exact h
          | defer d => exact h
          | enter f args => exact ⟨(fun h => nomatch h), CallsIn.inRound l (callsIn_wide.2 h)⟩
          | row row args => exact ⟨(fun h => nomatch h), rowsIn_wide h⟩
          | _ => exact h.elim
        · cases ht with
          | panic u => exact h
          | _ => exact h.elim
      · exact (hno h.2).elim
    · rw [if_neg hw] at h ⊢
      exact ⟨fun f _ => trivial, h⟩

theorem wpAnyIn_of_any (hnd : noDefer ops = true) (hno : ¬ LetsOut Q) : ∀ (fuel : Nat) (listed : Array Bool) (a : Act) (w : World), wpAny P md ops Q fuel listed a w → wpAnyIn (Fence.wide.inRound l) n P md ops Q fuel listed a w
  | 0, _, _, _, h => h
  | fuel + 1, _, _, _, h => ⟨h.1, fun i hi => wpOpIn_of hnd hno (wpOp_mono (fun a' w' h' => wpAnyIn_of_any hnd hno fuel _ a' w' h') (h.2 i hi))⟩

/-- A region that draws, in a round. -/
theorem wpIn_region_plain {id : Nat} {a : Act} {w : World} (hm : P.follows .mixedOrders = true) (hnd : noDefer ops = true) (hno : ¬ LetsOut Q)
    (h : wpAny P .any ops Q ops.size (Array.replicate ops.size false) a { w with drawn := w.drawn + 1 }) : (Code.region id ops true).wpIn (Fence.wide.inRound l) n P Q a w :=
  wpIn_region_any hm (wpAnyIn_of_any hnd hno _ _ _ _ h)

end
end Go.Proofs.YtmhpakhnclkenaaGreatDoor
