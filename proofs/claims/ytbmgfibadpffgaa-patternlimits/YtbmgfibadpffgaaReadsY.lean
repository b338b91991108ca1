/-
  A region that draws its order and whose operation z leaves for good the class of worlds in which the others read: what only reads may be taken first, if z and what else isn't of the class waits for it. On the texts Reads, ReadsZ.
-/
import Derived.Test.YtbmgfibadpffgaaPlain
namespace Go.Proofs.Ytbmgfibadpffgaa
open Go.RowKit

section
variable {P : Program} {ops : Array Oper} {md : Region.Mode} {C : World → Prop} {Q : Exit → Act → World → Prop} {z : Nat}

/-- The like, where the class is left by the operation z: till then each step ends in a world of it. -/
def wpAnyY (P : Program) (md : Region.Mode) (ops : Array Oper) (z : Nat) (C : World → Prop) (Q : Exit → Act → World → Prop) : Nat → Array Bool → Act → World → Prop
  | 0, listed, a, w => Region.ready md ops listed = [] ∧ Q .normal a w
  | fuel + 1, listed, a, w =>
    (Region.ready md ops listed = [] → Q .normal a w) ∧
    ∀ i ∈ Region.ready md ops listed, wpOp P ops Q i (fun a' w' => ((listed.setIfInBounds i true).getD z false = true ∨ C w') ∧ wpAnyY P md ops z C Q fuel (listed.setIfInBounds i true) a' w') a w
theorem wpAny_of_Y : ∀ (fuel : Nat) (listed : Array Bool) (a : Act) (w : World), wpAnyY P md ops z C Q fuel listed a w → wpAny P md ops Q fuel listed a w
  | 0, _, _, _, h => h
  | fuel + 1, _, _, _, h => ⟨h.1, fun i hi => wpOp_mono (fun a' w' h' => wpAny_of_Y fuel _ a' w' h'.2) (h.2 i hi)⟩
/-- What waits for i, through others of D, isn't ready while i isn't done. -/
theorem not_ready {i : Nat} {D : List Nat} (hD : (D.all fun k => (i :: D).any fun m => waits md ops k m) = true) {listed : Array Bool} (hU : ∀ k ∈ i :: D, listed.getD k true = false) {j : Nat} (hj : j ∈ Region.ready md ops listed) : j ∉ D := by
  intro hjD
  rw [List.all_eq_true] at hD
  have := hD j hjD
  rw [List.any_eq_true] at this
  obtain ⟨m, hm, hw⟩ := this
  exact waits_spec hw (hU m hm) hj
theorem wpAnyY_first {i : Nat} {oi : Oper} {v : Value} (hi : ops[i]? = some oi) (hsel : ∀ (j : Nat) (o : Oper) cs b, ops[j]? = some o → o.op ≠ .select cs b)
    (hQ : ∀ c a w, Q (.panic c) (a.put oi.dst v) w → Q (.panic c) a w) (D : List Nat) (hD : (D.all fun k => (i :: D).any fun m => waits md ops k m) = true) (hzD : z ∈ D) (fuel : Nat) (listed : Array Bool) (a : Act) (w : World) (hw : C w) (hU : ∀ k ∈ i :: D, listed.getD k true = false) (hz : listed.getD z false = false)
    (hfree : ∀ j oj, ops[j]? = some oj → j ≠ i → listed.getD j true = false → (∀ e ∈ oj.after, Region.binds md e = true → e.on ≠ i) → oi.apart ops oj = true)
    (hr : i ∈ Region.ready md ops listed) (hy : ReadsC P ops C oi v a) (H : wpAnyY P md ops z C Q fuel (listed.setIfInBounds i true) (a.put oi.dst v) w) : wpAnyY P md ops z C Q (fuel + 1) listed a w := by
  induction fuel generalizing listed a w with
  | zero =>
    refine ⟨fun h => absurd (h ▸ hr) List.not_mem_nil, fun j hj => ?_⟩
    rcases Decidable.em (j = i) with rfl | hji
    · exact wpOp_mono (fun a' w' h => ⟨.inr h.1, h.2⟩) (hy.wpOp hi hw H)
    · exact absurd (H.1 ▸ ready_mono hj hji) List.not_mem_nil
  | succ fuel ih =>
    refine ⟨fun h => absurd (h ▸ hr) List.not_mem_nil, fun j hj => ?_⟩
    rcases Decidable.em (j = i) with rfl | hji
    · exact wpOp_mono (fun a' w' h => ⟨.inr h.1, h.2⟩) (hy.wpOp hi hw H)
    obtain ⟨hun, oj, hoj, hdone⟩ := mem_ready.1 hj
    have hunI : listed.getD i true = false := (mem_ready.1 hr).1
    have hjD := not_ready hD hU hj
    have hjz : j ≠ z := fun e => hjD (e ▸ hzD)
    have hUj : ∀ k ∈ i :: D, (listed.setIfInBounds j true).getD k true = false := fun k hk => by
      refine (getD_set_ne true (fun e => ?_)).trans (hU k hk)
      subst e
      rcases List.mem_cons.1 hk with h | h
      · exact hji h
      · exact hjD h
    have hwait : ∀ e ∈ oj.after, Region.binds md e = true → e.on ≠ i := by
      rintro e he hb rfl
      have hd := hdone e he hb
      rw [Array.getD_eq_getD_getElem?] at hd hunI
      cases hq : listed[e.on]? with
      | none => rw [hq] at hd; cases hd
      | some b => rw [hq] at hd hunI; simp only [Option.getD_some] at hd hunI; rw [hd] at hunI; cases hunI
    have hap := hfree j oj hoj hji hun hwait
    have hzj : (listed.setIfInBounds j true).getD z false = false := (getD_set_ne false hjz).trans hz
    have hiz : i ≠ z := fun e => not_ready hD hU hr (e ▸ hzD)
    have hzij : ((listed.setIfInBounds i true).setIfInBounds j true).getD z false = false := (getD_set_ne false hjz).trans ((getD_set_ne false hiz).trans hz)
    have hstep := wpOp_behind hoj hap (fun cs b => hsel i oi cs b hi) (fun cs b => hsel j oj cs b hoj) hQ hy (H.2 j (ready_mono hj hji))
    refine wpOp_mono (fun a' w' hh => ?_) hstep
    have hC : C w' := hh.2.1.resolve_left (by rw [hzij]; simp)
    refine ⟨.inr hC, ih _ a' w' hC hUj hzj (fun k ok hk hki hkun hkno => hfree k ok hk hki ?_ hkno) (ready_mono hr (Ne.symm hji)) hh.1 ?_⟩
    · rcases Decidable.em (j = k) with rfl | hjk
      · exact hun
      · exact (getD_set_ne true hjk).symm.trans hkun
    · have := hh.2.2
      rwa [Array.setIfInBounds_comm _ _ (Ne.symm hji)] at this
theorem wpAnyY_reads (i : Nat) {fuel : Nat} {listed : Array Bool} {a : Act} {w : World} (hw : C w)
    (hs : Region.noSelect ops = true) (hf : Region.free md ops listed i = true) (hr : (Region.ready md ops listed).contains i = true) (D : List Nat) (hD : (D.all fun k => (i :: D).any fun m => waits md ops k m) = true) (hzD : D.contains z = true) (hU : ((i :: D).all fun k => !listed.getD k true) = true) (hz : listed.getD z false = false)
    (hQ : ∀ d v c a w, Q (.panic c) (a.put d v) w → Q (.panic c) a w)
    (h : ∀ oi, ops[i]? = some oi → ∀ K : Act → Prop, (∀ a', wpAnyY P md ops z C Q fuel (listed.setIfInBounds i true) a' w → K a') → if Region.wanted oi (yielded ops a.tmps) then readIn P oi a C K else K (a.put oi.dst undef)) : wpAnyY P md ops z C Q (fuel + 1) listed a w := by
  have hm : i ∈ Region.ready md ops listed := by simpa using hr
  obtain ⟨_, oi, hi, _⟩ := mem_ready.1 hm
  have hzD' : z ∈ D := by simpa using hzD
  have hU' : ∀ k ∈ i :: D, listed.getD k true = false := fun k hk => by
    rw [List.all_eq_true] at hU
    simpa using hU k hk
  have h := h oi hi _ (fun _ h => h)
  by_cases hwt : Region.wanted oi (yielded ops a.tmps) = true
  · rw [if_pos hwt] at h
    obtain ⟨v, h1, h2⟩ := h
    exact wpAnyY_first hi (Region.noSelect_spec hs) (hQ oi.dst v) D hD hzD' fuel listed a w hw hU' hz (Region.free_spec hi hf) hm (.inl ⟨hwt, h1⟩) h2
  · rw [if_neg hwt] at h
    exact wpAnyY_first hi (Region.noSelect_spec hs) (hQ oi.dst undef) D hD hzD' fuel listed a w hw hU' hz (Region.free_spec hi hf) hm (.inr ⟨by simpa using hwt, rfl⟩) h
theorem wpAnyY_calls (i : Nat) {fuel : Nat} {listed : Array Bool} {a : Act} {w : World} (hr : Region.ready md ops listed = [i])
    (h : ∀ oi, ops[i]? = some oi → ∀ K : Act → World → Prop, (∀ a' w', ((listed.setIfInBounds i true).getD z false = true ∨ C w') → wpAnyY P md ops z C Q fuel (listed.setIfInBounds i true) a' w' → K a' w') → if Region.wanted oi (yielded ops a.tmps) then Oper.wp P oi a w K Q else K (a.put oi.dst undef) w) : wpAnyY P md ops z C Q (fuel + 1) listed a w := by
  have hm : i ∈ Region.ready md ops listed := by rw [hr]; simp
  obtain ⟨_, oi, hi, _⟩ := mem_ready.1 hm
  refine ⟨fun h0 => (by rw [hr] at h0; cases h0), fun j hj => ?_⟩
  rw [hr, List.mem_singleton] at hj
  subst hj
  have h := h oi hi (fun a' w' => ((listed.setIfInBounds j true).getD z false = true ∨ C w') ∧ wpAnyY P md ops z C Q fuel (listed.setIfInBounds j true) a' w') (fun a' w' h1 h2 => ⟨h1, h2⟩)
  unfold wpOp
  simp only [hi]
  by_cases hwt : Region.wanted oi (yielded ops a.tmps) = true
  · rw [if_pos hwt] at h ⊢; exact .inl h
  · rw [if_neg hwt] at h ⊢; exact h
theorem wpAnyY_done {listed : Array Bool} {a : Act} {w : World} (hr : Region.ready md ops listed = []) (h : Q .normal a w) (fuel : Nat) : wpAnyY P md ops z C Q fuel listed a w := by
  cases fuel with
  | zero => exact ⟨hr, h⟩
  | succ n => exact ⟨fun _ => h, by rw [hr]; simp⟩
/-- Two operations are ready at once: both are walked. -/
theorem wpAnyY_two (i j : Nat) {fuel : Nat} {listed : Array Bool} {a : Act} {w : World} (hr : Region.ready md ops listed = [i, j])
    (hi : ∀ oi, ops[i]? = some oi → ∀ K : Act → World → Prop, (∀ a' w', ((listed.setIfInBounds i true).getD z false = true ∨ C w') → wpAnyY P md ops z C Q fuel (listed.setIfInBounds i true) a' w' → K a' w') → if Region.wanted oi (yielded ops a.tmps) then Oper.wp P oi a w K Q else K (a.put oi.dst undef) w)
    (hj : ∀ oi, ops[j]? = some oi → ∀ K : Act → World → Prop, (∀ a' w', ((listed.setIfInBounds j true).getD z false = true ∨ C w') → wpAnyY P md ops z C Q fuel (listed.setIfInBounds j true) a' w' → K a' w') → if Region.wanted oi (yielded ops a.tmps) then Oper.wp P oi a w K Q else K (a.put oi.dst undef) w) : wpAnyY P md ops z C Q (fuel + 1) listed a w := by
  refine ⟨fun h0 => (by rw [hr] at h0; cases h0), fun k hk => ?_⟩
  have hm := hk
  rw [hr] at hk
  obtain ⟨_, oi, ho, _⟩ := mem_ready.1 hm
  have step : ∀ (h : ∀ oi, ops[k]? = some oi → ∀ K : Act → World → Prop, (∀ a' w', ((listed.setIfInBounds k true).getD z false = true ∨ C w') → wpAnyY P md ops z C Q fuel (listed.setIfInBounds k true) a' w' → K a' w') → if Region.wanted oi (yielded ops a.tmps) then Oper.wp P oi a w K Q else K (a.put oi.dst undef) w), wpOp P ops Q k (fun a' w' => ((listed.setIfInBounds k true).getD z false = true ∨ C w') ∧ wpAnyY P md ops z C Q fuel (listed.setIfInBounds k true) a' w') a w := fun h => by
    have h := h oi ho (fun a' w' => ((listed.setIfInBounds k true).getD z false = true ∨ C w') ∧ wpAnyY P md ops z C Q fuel (listed.setIfInBounds k true) a' w') (fun a' w' h1 h2 => ⟨h1, h2⟩)
    unfold wpOp
    simp only [ho]
    by_cases hwt : Region.wanted oi (yielded ops a.tmps) = true
    · rw [if_pos hwt] at h ⊢; exact .inl h
    · rw [if_neg hwt] at h ⊢; exact h
  simp only [List.mem_cons, List.not_mem_nil, or_false] at hk
  rcases hk with rfl | rfl
  · exact step hi
  · exact step hj
end
end Go.Proofs.Ytbmgfibadpffgaa
