/-
  A region that draws its order, within a round of a loop over a function: what only reads may be taken first, as in the text Reads; where no operation defers and every function may be called.
-/
import Derived.Test.YtmhpakhnclkenaaGreatDoorReadsZ
import Derived.OrdersIn
import Derived.Test.YtmhpakhnclkenaaGreatDoorPlain
import Derived.Test.YtmhpakhnclkenaaGreatDoorTold
namespace Go.Proofs.YtmhpakhnclkenaaGreatDoor
open Go.RowKit

section
variable {F : Fence} {n : Nat} {P : Program} {ops : Array Oper} {md : Region.Mode} {C : World → Prop} {Q : Exit → Act → World → Prop}

/-- Whatever order is picked from here on, each step ending in a world of the class. -/
def wpAnyCI (F : Fence) (n : Nat) (P : Program) (md : Region.Mode) (ops : Array Oper) (C : World → Prop) (Q : Exit → Act → World → Prop) : Nat → Array Bool → Act → World → Prop
  | 0, listed, a, w => Region.ready md ops listed = [] ∧ Q .normal a w
  | fuel + 1, listed, a, w =>
    (Region.ready md ops listed = [] → Q .normal a w) ∧
    ∀ i ∈ Region.ready md ops listed, wpOpIn F n P ops Q i (fun a' w' => C w' ∧ wpAnyCI F n P md ops C Q fuel (listed.setIfInBounds i true) a' w') a w
theorem wpAnyIn_of_C : ∀ (fuel : Nat) (listed : Array Bool) (a : Act) (w : World), wpAnyCI F n P md ops C Q fuel listed a w → wpAnyIn F n P md ops Q fuel listed a w
  | 0, _, _, _, h => h
  | fuel + 1, _, _, _, h => ⟨h.1, fun i hi => wpOpIn_mono (fun a' w' h' => wpAnyIn_of_C fuel _ a' w' h'.2) (h.2 i hi)⟩
theorem ReadsC.wpOpIn (hfn : ∀ f, F.fn f) {i : Nat} {o : Oper} {v : Value} {a : Act} {w : World} (hnd : ∀ c, o.op ≠ .defer c) (hi : ops[i]? = some o) (hy : ReadsC P ops C o v a) (hw : C w) {K : Act → World → Prop} (h : K (a.put o.dst v) w) : wpOpIn F n P ops Q i (fun a' w' => C w' ∧ K a' w') a w := by
  unfold Go.wpOpIn
  simp only [hi]
  rcases hy with ⟨hwt, hv⟩ | ⟨hwt, rfl⟩
  · simp only [hwt, if_true, Oper.wpIn, Oper.semAt_eq _ _ _ hnd, hv w hw, Oper.uponIn]; exact ⟨fun f _ => hfn f, hw, h⟩
  · simp only [hwt, Bool.false_eq_true, if_false]; exact ⟨fun f _ => hfn f, hw, h⟩
/-- A read moved behind an operation that is apart from it. -/
theorem wpOpIn_behind (hfn : ∀ f, F.fn f) {j : Nat} {oi oj : Oper} {v : Value} (hj : ops[j]? = some oj) (hap : oi.apart ops oj = true) (hnd : ∀ c, oj.op ≠ .defer c) (hsi : ∀ cs b, oi.op ≠ .select cs b) (hsj : ∀ cs b, oj.op ≠ .select cs b)
    (hQ : ∀ c a w, Q (.panic c) (a.put oi.dst v) w → Q (.panic c) a w) {K : Act → World → Prop} {a : Act} {w : World} (hy : ReadsC P ops C oi v a) (h : wpOpIn F n P ops Q j K (a.put oi.dst v) w) :
    wpOpIn F n P ops Q j (fun a' w' => ReadsC P ops C oi v a' ∧ K (a'.put oi.dst v) w') a w := by
  obtain ⟨h1, h2, h3⟩ := Oper.apart_spec hap
  -- what comes behind oj's own value
  have behind : ∀ (u : Value) (w' : World), K ((a.put oi.dst v).put oj.dst u) w' → ReadsC P ops C oi v (a.put oj.dst u) ∧ K ((a.put oj.dst u).put oi.dst v) w' := fun u w' hk =>
    ⟨hy.of_same (execOp_put oi hsi a oj.dst u h3) (wanted_put oi a oj.dst u h3), by rw [← Act.put_comm a v u h2]; exact hk⟩
  unfold wpOpIn at h ⊢
  rw [hj] at h ⊢
  dsimp only at h ⊢
  rw [wanted_put oj a oi.dst v h1] at h
  by_cases hw : Region.wanted oj (yielded ops a.tmps) = true
  · rw [if_pos hw] at h ⊢
    refine ⟨fun f _ => hfn f, ?_⟩
    have h := h.2
    rw [Oper.semAt_eq _ _ _ hnd] at h ⊢
    rw [execOp_put oj hsj a oi.dst v h1] at h
    revert h
    generalize (execOp a.eval oj).run P w = res
    intro h
    rcases res with ⟨nx, w'⟩ | ⟨ht, w'⟩
    · cases nx with
      | value u => exact behind u w' h
      | skip => exact behind undef w' h
      | defer d =>
        refine ⟨(hy.of_same (a' := { a with defers := d :: a.defers }) rfl rfl).of_same (execOp_put oi hsi _ oj.dst undef h3) (wanted_put oi _ oj.dst undef h3), ?_⟩
        have h' : K (({ a.put oi.dst v with defers := d :: (a.put oi.dst v).defers } : Act).put oj.dst undef) w' := h
        rw [← Act.put_comm _ v undef h2, ← Act.put_defers]
        exact h'
      | enter f args =>
        refine ⟨h.1, CallsIn.mono h.2 fun e w'' he => ?_⟩
        cases e with
        | returned u => exact behind u w'' he
        | panicked c => exact hQ _ _ _ he
        | outgrown => exact he
      | row row args => exact ⟨h.1, RowsIn.mono h.2 fun u w'' he => behind u w'' he⟩
      | round l f tmps assign body =>
        refine ⟨h.1, RoundIn.mono h.2 fun e w'' he => ?_⟩
        cases e with
        | returned u => exact behind u w'' he
        | panicked c => exact hQ _ _ _ he
        | outgrown => exact he
      | _ => exact h
    · cases ht with
      | panic u => exact hQ _ _ _ h
      | _ => exact h
  · rw [if_neg hw] at h ⊢
    obtain ⟨hr, hk⟩ := behind undef w h.2
    exact ⟨fun f _ => hfn f, hr, hk⟩

/-- What only reads may be taken first. -/
theorem wpAnyCI_first (hfn : ∀ f, F.fn f) (hnd : ∀ (j : Nat) (o : Oper), ops[j]? = some o → ∀ c, o.op ≠ .defer c) {i : Nat} {oi : Oper} {v : Value} (hi : ops[i]? = some oi) (hsel : ∀ (j : Nat) (o : Oper) cs b, ops[j]? = some o → o.op ≠ .select cs b)
    (hQ : ∀ c a w, Q (.panic c) (a.put oi.dst v) w → Q (.panic c) a w) (fuel : Nat) (listed : Array Bool) (a : Act) (w : World) (hw : C w)
    (hfree : ∀ j oj, ops[j]? = some oj → j ≠ i → listed.getD j true = false → (∀ e ∈ oj.after, Region.binds md e = true → e.on ≠ i) → oi.apart ops oj = true)
    (hr : i ∈ Region.ready md ops listed) (hy : ReadsC P ops C oi v a) (H : wpAnyCI F n P md ops C Q fuel (listed.setIfInBounds i true) (a.put oi.dst v) w) : wpAnyCI F n P md ops C Q (fuel + 1) listed a w := by
  induction fuel generalizing listed a w with
  | zero =>
    refine ⟨fun h => absurd (h ▸ hr) List.not_mem_nil, fun j hj => ?_⟩
    rcases Decidable.em (j = i) with rfl | hji
    · exact ReadsC.wpOpIn hfn (hnd _ _ hi) hi hy hw H
    · exact absurd (H.1 ▸ ready_mono hj hji) List.not_mem_nil
  | succ fuel ih =>
    refine ⟨fun h => absurd (h ▸ hr) List.not_mem_nil, fun j hj => ?_⟩
    rcases Decidable.em (j = i) with rfl | hji
    · exact ReadsC.wpOpIn hfn (hnd _ _ hi) hi hy hw H
    obtain ⟨hun, oj, hoj, hdone⟩ := mem_ready.1 hj
    have hunI : listed.getD i true = false := (mem_ready.1 hr).1
    have hwait : ∀ e ∈ oj.after, Region.binds md e = true → e.on ≠ i := by
      rintro e he hb rfl
      have hd := hdone e he hb
      rw [Array.getD_eq_getD_getElem?] at hd hunI
      cases hq : listed[e.on]? with
      | none => rw [hq] at hd; cases hd
      | some b => rw [hq] at hd hunI; simp only [Option.getD_some] at hd hunI; rw [hd] at hunI; cases hunI
    have hap := hfree j oj hoj hji hun hwait
    have hstep := wpOpIn_behind hfn hoj hap (hnd j oj hoj) (fun cs b => hsel i oi cs b hi) (fun cs b => hsel j oj cs b hoj) hQ hy (H.2 j (ready_mono hj hji))
    refine wpOpIn_mono (fun a' w' hh => ⟨hh.2.1, ih _ a' w' hh.2.1 (fun k ok hk hki hkun hkno => hfree k ok hk hki ?_ hkno) (ready_mono hr (Ne.symm hji)) hh.1 ?_⟩) hstep
    · rcases Decidable.em (j = k) with rfl | hjk
      · exact hun
      · exact (getD_set_ne true hjk).symm.trans hkun
    · have := hh.2.2
      rwa [Array.setIfInBounds_comm _ _ (Ne.symm hji)] at this

theorem wpAnyCI_read (hfn : ∀ f, F.fn f) (hnd : noDefer ops = true) {i : Nat} {oi : Oper} {fuel : Nat} {listed : Array Bool} {a : Act} {w : World} (hw : C w) (hi : ops[i]? = some oi)
    (hs : Region.noSelect ops = true) (hf : Region.free md ops listed i = true) (hr : (Region.ready md ops listed).contains i = true)
    (hQ : ∀ v c a w, Q (.panic c) (a.put oi.dst v) w → Q (.panic c) a w)
    (h : ∀ K : Act → Prop, (∀ a', wpAnyCI F n P md ops C Q fuel (listed.setIfInBounds i true) a' w → K a') → if Region.wanted oi (yielded ops a.tmps) then readIn P oi a C K else K (a.put oi.dst undef)) : wpAnyCI F n P md ops C Q (fuel + 1) listed a w := by
  have h := h _ (fun _ h => h)
  by_cases hwt : Region.wanted oi (yielded ops a.tmps) = true
  · rw [if_pos hwt] at h
    obtain ⟨v, h1, h2⟩ := h
    exact wpAnyCI_first hfn (noDefer_spec hnd) hi (Region.noSelect_spec hs) (hQ v) fuel listed a w hw (Region.free_spec hi hf) (by simpa using hr) (.inl ⟨hwt, h1⟩) h2
  · rw [if_neg hwt] at h
    exact wpAnyCI_first hfn (noDefer_spec hnd) hi (Region.noSelect_spec hs) (hQ undef) fuel listed a w hw (Region.free_spec hi hf) (by simpa using hr) (.inr ⟨by simpa using hwt, rfl⟩) h

theorem wpAnyCI_one (hfn : ∀ f, F.fn f) {i : Nat} {oi : Oper} {fuel : Nat} {listed : Array Bool} {a : Act} {w : World} (hi : ops[i]? = some oi) (hr : Region.ready md ops listed = [i])
    (h : ∀ K : Act → World → Prop, (∀ a' w', C w' → wpAnyCI F n P md ops C Q fuel (listed.setIfInBounds i true) a' w' → K a' w') → if Region.wanted oi (yielded ops a.tmps) then Oper.wpIn F n P oi a w K Q else K (a.put oi.dst undef) w) : wpAnyCI F n P md ops C Q (fuel + 1) listed a w := by
  refine ⟨fun h0 => (by rw [hr] at h0; cases h0), fun j hj => ?_⟩
  rw [hr, List.mem_singleton] at hj
  subst hj
  have h := h (fun a' w' => C w' ∧ wpAnyCI F n P md ops C Q fuel (listed.setIfInBounds j true) a' w') (fun a' w' h1 h2 => ⟨h1, h2⟩)
  unfold wpOpIn
  simp only [hi]
  by_cases hwt : Region.wanted oi (yielded ops a.tmps) = true
  · rw [if_pos hwt] at h ⊢; exact h
  · rw [if_neg hwt] at h ⊢; exact ⟨fun f _ => hfn f, h⟩

theorem wpAnyCI_done {listed : Array Bool} {a : Act} {w : World} (hr : Region.ready md ops listed = []) (h : Q .normal a w) (fuel : Nat) : wpAnyCI F n P md ops C Q fuel listed a w := by
  cases fuel with
  | zero => exact ⟨hr, h⟩
  | succ n => exact ⟨fun _ => h, by rw [hr]; simp⟩

/-- The like, the operation as it stands in the region's text. -/
theorem wpAnyCI_reads (hfn : ∀ f, F.fn f) (i : Nat) {fuel : Nat} {listed : Array Bool} {a : Act} {w : World} (hw : C w)
    (hs : Region.noSelect ops = true) (hnd : noDefer ops = true) (hf : Region.free md ops listed i = true) (hr : (Region.ready md ops listed).contains i = true)
    (hQ : ∀ d v c a w, Q (.panic c) (a.put d v) w → Q (.panic c) a w)
    (h : ∀ oi, ops[i]? = some oi → ∀ K : Act → Prop, (∀ a', wpAnyCI F n P md ops C Q fuel (listed.setIfInBounds i true) a' w → K a') → if Region.wanted oi (yielded ops a.tmps) then readIn P oi a C K else K (a.put oi.dst undef)) : wpAnyCI F n P md ops C Q (fuel + 1) listed a w := by
  have hm : i ∈ Region.ready md ops listed := by simpa using hr
  obtain ⟨_, oi, hi, _⟩ := mem_ready.1 hm
  exact wpAnyCI_read hfn hnd hw hi hs hf hr (hQ oi.dst) (h oi hi)
theorem wpAnyCI_calls (hfn : ∀ f, F.fn f) (i : Nat) {fuel : Nat} {listed : Array Bool} {a : Act} {w : World} (hr : Region.ready md ops listed = [i])
    (h : ∀ oi, ops[i]? = some oi → ∀ K : Act → World → Prop, (∀ a' w', C w' → wpAnyCI F n P md ops C Q fuel (listed.setIfInBounds i true) a' w' → K a' w') → if Region.wanted oi (yielded ops a.tmps) then Oper.wpIn F n P oi a w K Q else K (a.put oi.dst undef) w) : wpAnyCI F n P md ops C Q (fuel + 1) listed a w := by
  have hm : i ∈ Region.ready md ops listed := by rw [hr]; simp
  obtain ⟨_, oi, hi, _⟩ := mem_ready.1 hm
  exact wpAnyCI_one hfn hi hr (h oi hi)

end
section
variable {F : Fence} {n : Nat} {P : Program} {ops : Array Oper} {md : Region.Mode} {C : World → Prop} {Q : Exit → Act → World → Prop} {z : Nat}

/-- The like, where the class is left by the operation z: till then each step ends in a world of it. -/
def wpAnyZI (F : Fence) (n : Nat) (P : Program) (md : Region.Mode) (ops : Array Oper) (z : Nat) (C : World → Prop) (Q : Exit → Act → World → Prop) : Nat → Array Bool → Act → World → Prop
  | 0, listed, a, w => Region.ready md ops listed = [] ∧ Q .normal a w
  | fuel + 1, listed, a, w =>
    (Region.ready md ops listed = [] → Q .normal a w) ∧
    ∀ i ∈ Region.ready md ops listed, wpOpIn F n P ops Q i (fun a' w' => ((listed.setIfInBounds i true).getD z false = true ∨ C w') ∧ wpAnyZI F n P md ops z C Q fuel (listed.setIfInBounds i true) a' w') a w
theorem wpAnyIn_of_Z : ∀ (fuel : Nat) (listed : Array Bool) (a : Act) (w : World), wpAnyZI F n P md ops z C Q fuel listed a w → wpAnyIn F n P md ops Q fuel listed a w
  | 0, _, _, _, h => h
  | fuel + 1, _, _, _, h => ⟨h.1, fun i hi => wpOpIn_mono (fun a' w' h' => wpAnyIn_of_Z fuel _ a' w' h'.2) (h.2 i hi)⟩
/-- What waits for i, through others of D, isn't ready while i isn't done. -/
theorem not_ready {i : Nat} {D : List Nat} (hD : (D.all fun k => (i :: D).any fun m => waits md ops k m) = true) {listed : Array Bool} (hU : ∀ k ∈ i :: D, listed.getD k true = false) {j : Nat} (hj : j ∈ Region.ready md ops listed) : j ∉ D := by
  intro hjD
  rw [List.all_eq_true] at hD
  have := hD j hjD
  rw [List.any_eq_true] at this
  obtain ⟨m, hm, hw⟩ := this
  exact waits_spec hw (hU m hm) hj
theorem wpAnyZI_first (hfn : ∀ f, F.fn f) (hnd : ∀ (j : Nat) (o : Oper), ops[j]? = some o → ∀ c, o.op ≠ .defer c) {i : Nat} {oi : Oper} {v : Value} (hi : ops[i]? = some oi) (hsel : ∀ (j : Nat) (o : Oper) cs b, ops[j]? = some o → o.op ≠ .select cs b)
    (hQ : ∀ c a w, Q (.panic c) (a.put oi.dst v) w → Q (.panic c) a w) (D : List Nat) (hD : (D.all fun k => (i :: D).any fun m => waits md ops k m) = true) (hzD : z ∈ D) (fuel : Nat) (listed : Array Bool) (a : Act) (w : World) (hw : C w) (hU : ∀ k ∈ i :: D, listed.getD k true = false) (hz : listed.getD z false = false)
    (hfree : ∀ j oj, ops[j]? = some oj → j ≠ i → listed.getD j true = false → (∀ e ∈ oj.after, Region.binds md e = true → e.on ≠ i) → oi.apart ops oj = true)
    (hr : i ∈ Region.ready md ops listed) (hy : ReadsC P ops C oi v a) (H : wpAnyZI F n P md ops z C Q fuel (listed.setIfInBounds i true) (a.put oi.dst v) w) : wpAnyZI F n P md ops z C Q (fuel + 1) listed a w := by
  induction fuel generalizing listed a w with
  | zero =>
    refine ⟨fun h => absurd (h ▸ hr) List.not_mem_nil, fun j hj => ?_⟩
    rcases Decidable.em (j = i) with rfl | hji
    · exact wpOpIn_mono (fun a' w' h => ⟨.inr h.1, h.2⟩) (ReadsC.wpOpIn hfn (hnd _ _ hi) hi hy hw H)
    · exact absurd (H.1 ▸ ready_mono hj hji) List.not_mem_nil
  | succ fuel ih =>
    refine ⟨fun h => absurd (h ▸ hr) List.not_mem_nil, fun j hj => ?_⟩
    rcases Decidable.em (j = i) with rfl | hji
    · exact wpOpIn_mono (fun a' w' h => ⟨.inr h.1, h.2⟩) (ReadsC.wpOpIn hfn (hnd _ _ hi) hi hy hw H)
    obtain ⟨hun, oj, hoj, hdone⟩ := mem_ready.1 hj
    have hunI : listed.getD i true = false := (mem_ready.1 hr).1
    have hjD := not_ready hD hU hj
    have hjz : j ≠ z := fun e => hjD (e ▸ hzD)
    have hUj : ∀ k ∈ i :: D, (listed.setIfInBounds j true).getD k true = false := fun k hk => by
      refine (getD_set_ne true (fun e => ?_)).trans (hU k hk)
      subst e
      rcases List.mem_cons.1 hk with h | h
      · exact hji h
      · exact hjD h
    have hwait : ∀ e ∈ oj.after, Region.binds md e = true → e.on ≠ i := by
      rintro e he hb rfl
      have hd := hdone e he hb
      rw [Array.getD_eq_getD_getElem?] at hd hunI
      cases hq : listed[e.on]? with
      | none => rw [hq] at hd; cases hd
      | some b => rw [hq] at hd hunI; simp only [Option.getD_some] at hd hunI; rw [hd] at hunI; cases hunI
    have hap := hfree j oj hoj hji hun hwait
    have hzj : (listed.setIfInBounds j true).getD z false = false := (getD_set_ne false hjz).trans hz
    have hiz : i ≠ z := fun e => not_ready hD hU hr (e ▸ hzD)
    have hzij : ((listed.setIfInBounds i true).setIfInBounds j true).getD z false = false := (getD_set_ne false hjz).trans ((getD_set_ne false hiz).trans hz)
    have hstep := wpOpIn_behind hfn hoj hap (hnd j oj hoj) (fun cs b => hsel i oi cs b hi) (fun cs b => hsel j oj cs b hoj) hQ hy (H.2 j (ready_mono hj hji))
    refine wpOpIn_mono (fun a' w' hh => ?_) hstep
    have hC : C w' := hh.2.1.resolve_left (by rw [hzij]; simp)
    refine ⟨.inr hC, ih _ a' w' hC hUj hzj (fun k ok hk hki hkun hkno => hfree k ok hk hki ?_ hkno) (ready_mono hr (Ne.symm hji)) hh.1 ?_⟩
    · rcases Decidable.em (j = k) with rfl | hjk
      · exact hun
      · exact (getD_set_ne true hjk).symm.trans hkun
    · have := hh.2.2
      rwa [Array.setIfInBounds_comm _ _ (Ne.symm hji)] at this
theorem wpAnyZI_reads (hfn : ∀ f, F.fn f) (i : Nat) {fuel : Nat} {listed : Array Bool} {a : Act} {w : World} (hw : C w)
    (hs : Region.noSelect ops = true) (hnd : noDefer ops = true) (hf : Region.free md ops listed i = true) (hr : (Region.ready md ops listed).contains i = true) (D : List Nat) (hD : (D.all fun k => (i :: D).any fun m => waits md ops k m) = true) (hzD : D.contains z = true) (hU : ((i :: D).all fun k => !listed.getD k true) = true) (hz : listed.getD z false = false)
    (hQ : ∀ d v c a w, Q (.panic c) (a.put d v) w → Q (.panic c) a w)
    (h : ∀ oi, ops[i]? = some oi → ∀ K : Act → Prop, (∀ a', wpAnyZI F n P md ops z C Q fuel (listed.setIfInBounds i true) a' w → K a') → if Region.wanted oi (yielded ops a.tmps) then readIn P oi a C K else K (a.put oi.dst undef)) : wpAnyZI F n P md ops z C Q (fuel + 1) listed a w := by
  have hm : i ∈ Region.ready md ops listed := by simpa using hr
  obtain ⟨_, oi, hi, _⟩ := mem_ready.1 hm
  have hzD' : z ∈ D := by simpa using hzD
  have hU' : ∀ k ∈ i :: D, listed.getD k true = false := fun k hk => by
    rw [List.all_eq_true] at hU
    simpa using hU k hk
  have h := h oi hi _ (fun _ h => h)
  by_cases hwt : Region.wanted oi (yielded ops a.tmps) = true
  · rw [if_pos hwt] at h
    obtain ⟨v, h1, h2⟩ := h
    exact wpAnyZI_first hfn (noDefer_spec hnd) hi (Region.noSelect_spec hs) (hQ oi.dst v) D hD hzD' fuel listed a w hw hU' hz (Region.free_spec hi hf) hm (.inl ⟨hwt, h1⟩) h2
  · rw [if_neg hwt] at h
    exact wpAnyZI_first hfn (noDefer_spec hnd) hi (Region.noSelect_spec hs) (hQ oi.dst undef) D hD hzD' fuel listed a w hw hU' hz (Region.free_spec hi hf) hm (.inr ⟨by simpa using hwt, rfl⟩) h
theorem wpAnyZI_calls (hfn : ∀ f, F.fn f) (i : Nat) {fuel : Nat} {listed : Array Bool} {a : Act} {w : World} (hr : Region.ready md ops listed = [i])
    (h : ∀ oi, ops[i]? = some oi → ∀ K : Act → World → Prop, (∀ a' w', ((listed.setIfInBounds i true).getD z false = true ∨ C w') → wpAnyZI F n P md ops z C Q fuel (listed.setIfInBounds i true) a' w' → K a' w') → if Region.wanted oi (yielded ops a.tmps) then Oper.wpIn F n P oi a w K Q else K (a.put oi.dst undef) w) : wpAnyZI F n P md ops z C Q (fuel + 1) listed a w := by
  have hm : i ∈ Region.ready md ops listed := by rw [hr]; simp
  obtain ⟨_, oi, hi, _⟩ := mem_ready.1 hm
  refine ⟨fun h0 => (by rw [hr] at h0; cases h0), fun j hj => ?_⟩
  rw [hr, List.mem_singleton] at hj
  subst hj
  have h := h oi hi (fun a' w' => ((listed.setIfInBounds j true).getD z false = true ∨ C w') ∧ wpAnyZI F n P md ops z C Q fuel (listed.setIfInBounds j true) a' w') (fun a' w' h1 h2 => ⟨h1, h2⟩)
  unfold wpOpIn
  simp only [hi]
  by_cases hwt : Region.wanted oi (yielded ops a.tmps) = true
  · rw [if_pos hwt] at h ⊢; exact h
  · rw [if_neg hwt] at h ⊢; exact ⟨fun f _ => hfn f, h⟩
theorem wpAnyZI_done {listed : Array Bool} {a : Act} {w : World} (hr : Region.ready md ops listed = []) (h : Q .normal a w) (fuel : Nat) : wpAnyZI F n P md ops z C Q fuel listed a w := by
  cases fuel with
  | zero => exact ⟨hr, h⟩
  | succ n => exact ⟨fun _ => h, by rw [hr]; simp⟩
end
/-- A round of a loop may be asked for from within another, at whatever depth. -/
theorem yield_in {m m' : Nat} {P : Program} {l l' : Nat} {args : Array Value} {W : World} {R : Ending → World → Prop} (h : YieldAt Fence.wide m P l args W R) : YieldAt (Fence.wide.inRound l') m' P l args W R := by
  obtain ⟨fn, tmps, assign, body, h1, h2, h3⟩ := h
  exact ⟨fn, tmps, assign, body, h1, h2, fun c cs _ => h3 c cs (room_wide _)⟩
end Go.Proofs.YtmhpakhnclkenaaGreatDoor
