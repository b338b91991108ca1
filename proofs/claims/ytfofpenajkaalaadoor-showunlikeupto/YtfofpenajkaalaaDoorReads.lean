/-
  A region that draws its order: what only reads may be taken first, whatever the calls beside it give back, if every call leaves a world of the class in which the reads read so. On the library's Derived.Orders (wpAny, wpOp_put).
-/
import Derived.Test.YtfofpenajkaalaaDoorVal
import Derived.Lib.QuietBelow
namespace Go.Proofs.YtfofpenajkaalaaDoor
open Go.RowKit

section
variable {P : Program} {ops : Array Oper} {md : Region.Mode} {C : World → Prop} {Q : Exit → Act → World → Prop}

/-- Whatever order is picked from here on, each step ending in a world of the class. -/
def wpAnyC (P : Program) (md : Region.Mode) (ops : Array Oper) (C : World → Prop) (Q : Exit → Act → World → Prop) : Nat → Array Bool → Act → World → Prop
  | 0, listed, a, w => Region.ready md ops listed = [] ∧ Q .normal a w
  | fuel + 1, listed, a, w =>
    (Region.ready md ops listed = [] → Q .normal a w) ∧
    ∀ i ∈ Region.ready md ops listed, wpOp P ops Q i (fun a' w' => C w' ∧ wpAnyC P md ops C Q fuel (listed.setIfInBounds i true) a' w') a w

theorem wpAny_of_C : ∀ (fuel : Nat) (listed : Array Bool) (a : Act) (w : World), wpAnyC P md ops C Q fuel listed a w → wpAny P md ops Q fuel listed a w
  | 0, _, _, _, h => h
  | fuel + 1, _, _, _, h => ⟨h.1, fun i hi => wpOp_mono (fun a' w' h' => wpAny_of_C fuel _ a' w' h'.2) (h.2 i hi)⟩

/-- In state a, in every world of the class, the operation yields v, and the world is as it was. -/
def ReadsC (P : Program) (ops : Array Oper) (C : World → Prop) (o : Oper) (v : Value) (a : Act) : Prop :=
  (Region.wanted o (yielded ops a.tmps) = true ∧ ∀ w, C w → (execOp a.eval o).run P w = .ok (.value v) w) ∨ (Region.wanted o (yielded ops a.tmps) = false ∧ v = undef)

theorem ReadsC.wpOp {i : Nat} {o : Oper} {v : Value} {a : Act} {w : World} (hi : ops[i]? = some o) (hy : ReadsC P ops C o v a) (hw : C w) {K : Act → World → Prop} (h : K (a.put o.dst v) w) : wpOp P ops Q i (fun a' w' => C w' ∧ K a' w') a w := by
  unfold Go.wpOp
  simp only [hi]
  rcases hy with ⟨hwt, hv⟩ | ⟨hwt, rfl⟩
  · simp only [hwt, if_true, Oper.wp, hv w hw, Oper.upon]; exact .inl ⟨hw, h⟩
  · simp only [hwt, Bool.false_eq_true, if_false]; exact ⟨hw, h⟩

theorem ReadsC.of_same {o : Oper} {v : Value} {a a' : Act} (hy : ReadsC P ops C o v a) (he : execOp a'.eval o = execOp a.eval o)
    (hw : Region.wanted o (yielded ops a'.tmps) = Region.wanted o (yielded ops a.tmps)) : ReadsC P ops C o v a' := by
  unfold ReadsC at *
  rw [he, hw]
  exact hy

/-- The operation that yields v whatever the world, where o stands. -/
def still (o : Oper) (v : Value) : Oper := { o with op := .move (.const v) }
theorem still_yields {o : Oper} {v : Value} {a : Act} (hy : ReadsC P ops C o v a) : Yields P ops (still o v) v a := by
  rcases hy with ⟨h, _⟩ | h
  · exact .inl ⟨h, fun _ => rfl⟩
  · exact .inr h
theorem still_apart {o oj : Oper} (v : Value) (h : o.apart ops oj = true) : (still o v).apart ops oj = true := by
  unfold Oper.apart at h ⊢
  rw [Bool.and_eq_true] at h ⊢
  refine ⟨h.1, ?_⟩
  have h2 := h.2
  cases hd : oj.dst with
  | none => rfl
  | some d =>
    rw [hd] at h2
    simp only [Bool.not_eq_true'] at h2 ⊢
    rw [← Bool.not_eq_true, List.contains_iff_mem] at h2 ⊢
    intro hm
    apply h2
    unfold Oper.looksAt at hm ⊢
    rcases List.mem_append.1 hm with hm | hm
    · simp [still, Op.operands] at hm
    · exact List.mem_append_right _ hm

/-- What an operation leaves of the activation: its own temporary apart, all as it was. -/
theorem wpOp_near {j : Nat} {oj : Oper} (hj : ops[j]? = some oj) {K : Act → World → Prop} {a : Act} {w : World} (h : wpOp P ops Q j K a w) :
    wpOp P ops Q j (fun a' w' => K a' w' ∧ ∃ (ds : List Deferred) (u : Value), a' = ({ a with defers := ds } : Act).put oj.dst u) a w := by
  have plain : ∀ u : Value, ∃ (ds : List Deferred) (u' : Value), a.put oj.dst u = ({ a with defers := ds } : Act).put oj.dst u' := fun u => ⟨a.defers, u, rfl⟩
  unfold wpOp at h ⊢
  rw [hj] at h ⊢
  dsimp only at h ⊢
  by_cases hw : Region.wanted oj (yielded ops a.tmps) = true
  · rw [if_pos hw] at h ⊢
    refine h.imp (fun h => ?_) id
    unfold Oper.wp at h ⊢
    revert h
    generalize (execOp a.eval oj).run P w = res
    rcases res with ⟨nx, w'⟩ | ⟨ht, w'⟩
    · intro h
      cases nx with
      | value u => exact ⟨h, plain u⟩
      | skip => exact ⟨h, plain undef⟩
      | defer d => exact ⟨h, d :: a.defers, undef, rfl⟩
      | enter f args =>
        exact Calls.mono h fun e w'' he => by
          cases e with
          | returned u => exact ⟨he, plain u⟩
          | panicked c => exact he
          | outgrown => exact he
      | row row args => exact Rows.mono h fun u w'' he => ⟨he, plain u⟩
      | _ => exact h
    · intro h
      cases ht <;> exact h
  · rw [if_neg hw] at h ⊢
    exact ⟨h, plain undef⟩

/-- A read moved behind an operation that is apart from it. -/
theorem wpOp_behind {j : Nat} {oi oj : Oper} {v : Value} (hj : ops[j]? = some oj) (hap : oi.apart ops oj = true) (hsi : ∀ cs b, oi.op ≠ .select cs b) (hsj : ∀ cs b, oj.op ≠ .select cs b)
    (hQ : ∀ c a w, Q (.panic c) (a.put oi.dst v) w → Q (.panic c) a w) {K : Act → World → Prop} {a : Act} {w : World} (hy : ReadsC P ops C oi v a) (h : wpOp P ops Q j K (a.put oi.dst v) w) :
    wpOp P ops Q j (fun a' w' => ReadsC P ops C oi v a' ∧ K (a'.put oi.dst v) w') a w := by
  have h1 := wpOp_near hj (wpOp_put (oi := still oi v) hj (still_apart v hap) (fun _ _ e => by cases e) hsj hQ (still_yields hy) h)
  obtain ⟨_, _, h3⟩ := Oper.apart_spec hap
  refine wpOp_mono (fun a' w' hh => ⟨?_, hh.1.2⟩) h1
  obtain ⟨ds, u, rfl⟩ := hh.2
  exact (hy.of_same (a' := { a with defers := ds }) rfl rfl).of_same (execOp_put oi hsi _ oj.dst u h3) (wanted_put oi _ oj.dst u h3)

/-- What only reads may be taken first. -/
theorem wpAnyC_first {i : Nat} {oi : Oper} {v : Value} (hi : ops[i]? = some oi) (hsel : ∀ (j : Nat) (o : Oper) cs b, ops[j]? = some o → o.op ≠ .select cs b)
    (hQ : ∀ c a w, Q (.panic c) (a.put oi.dst v) w → Q (.panic c) a w) (fuel : Nat) (listed : Array Bool) (a : Act) (w : World) (hw : C w)
    (hfree : ∀ j oj, ops[j]? = some oj → j ≠ i → listed.getD j true = false → (∀ e ∈ oj.after, Region.binds md e = true → e.on ≠ i) → oi.apart ops oj = true)
    (hr : i ∈ Region.ready md ops listed) (hy : ReadsC P ops C oi v a) (H : wpAnyC P md ops C Q fuel (listed.setIfInBounds i true) (a.put oi.dst v) w) : wpAnyC P md ops C Q (fuel + 1) listed a w := by
  induction fuel generalizing listed a w with
  | zero =>
    refine ⟨fun h => absurd (h ▸ hr) List.not_mem_nil, fun j hj => ?_⟩
    rcases Decidable.em (j = i) with rfl | hji
    · exact hy.wpOp hi hw H
    · exact absurd (H.1 ▸ ready_mono hj hji) List.not_mem_nil
  | succ fuel ih =>
    refine ⟨fun h => absurd (h ▸ hr) List.not_mem_nil, fun j hj => ?_⟩
    rcases Decidable.em (j = i) with rfl | hji
    · exact hy.wpOp hi hw H
    obtain ⟨hun, oj, hoj, hdone⟩ := mem_ready.1 hj
    have hunI : listed.getD i true = false := (mem_ready.1 hr).1
    have hwait : ∀ e ∈ oj.after, Region.binds md e = true → e.on ≠ i := by
      rintro e he hb rfl
      have hd := hdone e he hb
      rw [Array.getD_eq_getD_getElem?] at hd hunI
      cases hq : listed[e.on]? with
      | none => rw [hq] at hd; cases hd
      | some b => rw [hq] at hd hunI; simp only [Option.getD_some] at hd hunI; rw [hd] at hunI; cases hunI
    have hap := hfree j oj hoj hji hun hwait
    have hstep := wpOp_behind hoj hap (fun cs b => hsel i oi cs b hi) (fun cs b => hsel j oj cs b hoj) hQ hy (H.2 j (ready_mono hj hji))
    refine wpOp_mono (fun a' w' hh => ⟨hh.2.1, ih _ a' w' hh.2.1 (fun k ok hk hki hkun hkno => hfree k ok hk hki ?_ hkno) (ready_mono hr (Ne.symm hji)) hh.1 ?_⟩) hstep
    · rcases Decidable.em (j = k) with rfl | hjk
      · exact hun
      · exact (getD_set_ne true hjk).symm.trans hkun
    · have := hh.2.2
      rwa [Array.setIfInBounds_comm _ _ (Ne.symm hji)] at this

/-- What is asked of an operation that reads. -/
def readIn (P : Program) (o : Oper) (a : Act) (C : World → Prop) (K : Act → Prop) : Prop := ∃ v, (∀ w, C w → (execOp a.eval o).run P w = .ok (.value v) w) ∧ K (a.put o.dst v)

theorem wpAnyC_read {i : Nat} {oi : Oper} {fuel : Nat} {listed : Array Bool} {a : Act} {w : World} (hw : C w) (hi : ops[i]? = some oi)
    (hs : Region.noSelect ops = true) (hf : Region.free md ops listed i = true) (hr : (Region.ready md ops listed).contains i = true)
    (hQ : ∀ v c a w, Q (.panic c) (a.put oi.dst v) w → Q (.panic c) a w)
    (h : ∀ K : Act → Prop, (∀ a', wpAnyC P md ops C Q fuel (listed.setIfInBounds i true) a' w → K a') → if Region.wanted oi (yielded ops a.tmps) then readIn P oi a C K else K (a.put oi.dst undef)) : wpAnyC P md ops C Q (fuel + 1) listed a w := by
  have h := h _ (fun _ h => h)
  by_cases hwt : Region.wanted oi (yielded ops a.tmps) = true
  · rw [if_pos hwt] at h
    obtain ⟨v, h1, h2⟩ := h
    exact wpAnyC_first hi (Region.noSelect_spec hs) (hQ v) fuel listed a w hw (Region.free_spec hi hf) (by simpa using hr) (.inl ⟨hwt, h1⟩) h2
  · rw [if_neg hwt] at h
    exact wpAnyC_first hi (Region.noSelect_spec hs) (hQ undef) fuel listed a w hw (Region.free_spec hi hf) (by simpa using hr) (.inr ⟨by simpa using hwt, rfl⟩) h

theorem wpAnyC_one {i : Nat} {oi : Oper} {fuel : Nat} {listed : Array Bool} {a : Act} {w : World} (hi : ops[i]? = some oi) (hr : Region.ready md ops listed = [i])
    (h : ∀ K : Act → World → Prop, (∀ a' w', C w' → wpAnyC P md ops C Q fuel (listed.setIfInBounds i true) a' w' → K a' w') → if Region.wanted oi (yielded ops a.tmps) then Oper.wp P oi a w K Q else K (a.put oi.dst undef) w) : wpAnyC P md ops C Q (fuel + 1) listed a w := by
  refine ⟨fun h0 => (by rw [hr] at h0; cases h0), fun j hj => ?_⟩
  rw [hr, List.mem_singleton] at hj
  subst hj
  have h := h (fun a' w' => C w' ∧ wpAnyC P md ops C Q fuel (listed.setIfInBounds j true) a' w') (fun a' w' h1 h2 => ⟨h1, h2⟩)
  unfold wpOp
  simp only [hi]
  by_cases hwt : Region.wanted oi (yielded ops a.tmps) = true
  · rw [if_pos hwt] at h ⊢; exact .inl h
  · rw [if_neg hwt] at h ⊢; exact h

theorem wpAnyC_done {listed : Array Bool} {a : Act} {w : World} (hr : Region.ready md ops listed = []) (h : Q .normal a w) (fuel : Nat) : wpAnyC P md ops C Q fuel listed a w := by
  cases fuel with
  | zero => exact ⟨hr, h⟩
  | succ n => exact ⟨fun _ => h, by rw [hr]; simp⟩

/-- The like, the operation as it stands in the region's text. -/
theorem wpAnyC_reads (i : Nat) {fuel : Nat} {listed : Array Bool} {a : Act} {w : World} (hw : C w)
    (hs : Region.noSelect ops = true) (hf : Region.free md ops listed i = true) (hr : (Region.ready md ops listed).contains i = true)
    (hQ : ∀ d v c a w, Q (.panic c) (a.put d v) w → Q (.panic c) a w)
    (h : ∀ oi, ops[i]? = some oi → ∀ K : Act → Prop, (∀ a', wpAnyC P md ops C Q fuel (listed.setIfInBounds i true) a' w → K a') → if Region.wanted oi (yielded ops a.tmps) then readIn P oi a C K else K (a.put oi.dst undef)) : wpAnyC P md ops C Q (fuel + 1) listed a w := by
  have hm : i ∈ Region.ready md ops listed := by simpa using hr
  obtain ⟨_, oi, hi, _⟩ := mem_ready.1 hm
  exact wpAnyC_read hw hi hs hf hr (hQ oi.dst) (h oi hi)
theorem wpAnyC_calls (i : Nat) {fuel : Nat} {listed : Array Bool} {a : Act} {w : World} (hr : Region.ready md ops listed = [i])
    (h : ∀ oi, ops[i]? = some oi → ∀ K : Act → World → Prop, (∀ a' w', C w' → wpAnyC P md ops C Q fuel (listed.setIfInBounds i true) a' w' → K a' w') → if Region.wanted oi (yielded ops a.tmps) then Oper.wp P oi a w K Q else K (a.put oi.dst undef) w) : wpAnyC P md ops C Q (fuel + 1) listed a w := by
  have hm : i ∈ Region.ready md ops listed := by rw [hr]; simp
  obtain ⟨_, oi, hi, _⟩ := mem_ready.1 hm
  exact wpAnyC_one hi hr (h oi hi)

end
end Go.Proofs.YtfofpenajkaalaaDoor
