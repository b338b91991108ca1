/-
  A region that draws its order, by what each operation's place holds: where whatever comes up gives its place what is said of it, of what the places that it waits for hold, all is so at the end, whatever order was picked. On the library's Derived.Orders.
-/
import Derived.Test.YtfofpenajkaalaaDoorEscaped
namespace Go.Proofs.YtfofpenajkaalaaDoor
open Go.RowKit Go.Shelf

section
variable {P : Program} {ops : Array Oper} {md : Region.Mode} {Q : Exit → Act → World → Prop}

/-- How many of n operations are still to come. -/
def togo (n : Nat) (listed : Array Bool) : Nat := ((List.range n).filter fun j => !(listed.getD j true)).length
theorem getD_set_same {listed : Array Bool} {i : Nat} (h : listed.getD i true = false) : (listed.setIfInBounds i true).getD i true = true := by
  have hi : i < listed.size := by
    rw [Array.getD_eq_getD_getElem?] at h
    rcases Nat.lt_or_ge i listed.size with hl | hl
    · exact hl
    · rw [Array.getElem?_eq_none hl] at h; cases h
  simp [Array.getD_eq_getD_getElem?, hi]
theorem togo_set {n : Nat} {listed : Array Bool} {i : Nat} (hn : i < n) (h : listed.getD i true = false) : togo n (listed.setIfInBounds i true) < togo n listed := by
  unfold togo
  have e : (List.range n).filter (fun j => !((listed.setIfInBounds i true).getD j true)) = ((List.range n).filter fun j => !(listed.getD j true)).filter fun j => j != i := by
    rw [List.filter_filter]
    congr 1
    funext j
    rcases Decidable.em (i = j) with rfl | hij
    · rw [getD_set_same h]; simp
    · rw [getD_set_ne true hij]
      simp [Ne.symm hij]
  rw [e, List.length_filter_lt_length_iff_exists]
  exact ⟨i, List.mem_filter.2 ⟨List.mem_range.2 hn, by simp [h]⟩, by simp⟩
theorem togo_zero {n : Nat} {listed : Array Bool} (h : togo n listed = 0) {i : Nat} (hi : i < n) : listed.getD i true = true := by
  unfold togo at h
  cases hq : listed.getD i true
  · have hm : i ∈ (List.range n).filter fun j => !(listed.getD j true) := List.mem_filter.2 ⟨List.mem_range.2 hi, by simp [hq]⟩
    rw [List.length_eq_zero_iff.1 h] at hm
    cases hm
  · rfl
theorem wpAny_inv (I : Array Bool → Act → World → Prop)
    (hstep : ∀ listed a w i, I listed a w → i ∈ Region.ready md ops listed → wpOp P ops Q i (fun a' w' => I (listed.setIfInBounds i true) a' w') a w)
    (hdone : ∀ listed a w, I listed a w → Region.ready md ops listed = [] → Q .normal a w) :
    ∀ (fuel : Nat) (listed : Array Bool) (a : Act) (w : World), togo ops.size listed ≤ fuel → I listed a w → wpAny P md ops Q fuel listed a w
  | 0, listed, a, w, hf, hI => by
    have hr : Region.ready md ops listed = [] := by
      rcases h : Region.ready md ops listed with _ | ⟨i, l⟩
      · rfl
      · exfalso
        have hm : i ∈ Region.ready md ops listed := by rw [h]; simp
        obtain ⟨hun, oi, hoi, _⟩ := mem_ready.1 hm
        have := togo_zero (Nat.le_zero.1 hf) (Array.getElem?_eq_some_iff.1 hoi).1
        rw [this] at hun; cases hun
    exact ⟨hr, hdone listed a w hI hr⟩
  | fuel + 1, listed, a, w, hf, hI => by
    refine ⟨fun hr => hdone listed a w hI hr, fun i hi => ?_⟩
    obtain ⟨hun, oi, hoi, _⟩ := mem_ready.1 hi
    have hlt := togo_set (Array.getElem?_eq_some_iff.1 hoi).1 hun
    exact wpOp_mono (fun a' w' h' => wpAny_inv I hstep hdone fuel _ a' w' (by omega) h') (hstep listed a w i hI hi)

/-- Each operation waits for earlier ones alone. -/
def depsUp (md : Region.Mode) (ops : Array Oper) : Bool := (List.range ops.size).all fun i => (ops[i]?).all fun o => o.after.toList.all fun e => !(Region.binds md e) || decide (e.on < i)
theorem ready_nil (hd : depsUp md ops = true) {listed : Array Bool} (hs : listed.size = ops.size) (h : Region.ready md ops listed = []) : ∀ i, i < ops.size → listed.getD i true = true := by
  intro i
  induction i using Nat.strongRecOn with
  | ind i ih =>
    intro hi
    cases hq : listed.getD i true
    · exfalso
      have hm : i ∈ Region.ready md ops listed := by
        refine mem_ready.2 ⟨hq, ops[i], Array.getElem?_eq_getElem hi, fun e he hb => ?_⟩
        have h1 := List.all_eq_true.1 hd i (List.mem_range.2 hi)
        rw [Array.getElem?_eq_getElem hi] at h1
        simp only [Option.all_some, List.all_eq_true, Bool.or_eq_true, Bool.not_eq_true', decide_eq_true_eq] at h1
        have h2 := (h1 e (by simpa using he)).resolve_left (by rw [hb]; simp)
        have h3 := ih e.on h2 (by omega)
        rw [Array.getD_eq_getD_getElem?] at h3 ⊢
        cases hz : listed[e.on]? with
        | none => have := Array.getElem?_eq_none_iff.1 hz; omega
        | some b => rw [hz] at h3; simpa using h3
      rw [h] at hm; cases hm
    · rfl

/-- What came up, came up behind what it waits for. -/
theorem ready_dep {listed : Array Bool} {i : Nat} (h : i ∈ Region.ready md ops listed) (j : Nat) (hw : waits md ops i j = true) : listed.getD j true = true := by
  cases hq : listed.getD j true
  · exact absurd h (waits_spec hw hq)
  · rfl
/-- Each operation writes a place of its own, below n; none is guarded. -/
def dstsOk (n : Nat) (ops : Array Oper) : Bool :=
  (List.range ops.size).all fun i => (ops[i]?).all fun o => o.guard.isNone && o.dst.any (fun d => decide (d < n) && (List.range ops.size).all fun j => decide (j = i) || (ops[j]?).all fun o' => !(o'.dst == some d))
theorem dstsOk_spec {n : Nat} (h : dstsOk n ops = true) {i : Nat} {o : Oper} (ho : ops[i]? = some o) : o.guard = none ∧ ∃ d, o.dst = some d ∧ d < n ∧ ∀ j o', ops[j]? = some o' → j ≠ i → o'.dst ≠ some d := by
  have hi := (Array.getElem?_eq_some_iff.1 ho).1
  have h1 := List.all_eq_true.1 h i (List.mem_range.2 hi)
  rw [ho] at h1
  simp only [Option.all_some, Bool.and_eq_true, Option.isNone_iff_eq_none] at h1
  obtain ⟨hg, h2⟩ := h1
  refine ⟨hg, ?_⟩
  cases hd : o.dst with
  | none => rw [hd] at h2; cases h2
  | some d =>
    rw [hd] at h2
    simp only [Option.any_some, Bool.and_eq_true, decide_eq_true_eq] at h2
    refine ⟨d, rfl, h2.1, fun j o' ho' hj hd' => ?_⟩
    have h3 := List.all_eq_true.1 h2.2 j (List.mem_range.2 (Array.getElem?_eq_some_iff.1 ho').1)
    rw [ho'] at h3
    simp [hj, hd'] at h3

/-- What holds where some operations have come: the places that they wrote hold what is said of them. -/
structure FactsAt (R : World → World → Prop) (Φ : Nat → Value → World → Prop) (md : Region.Mode) (ops : Array Oper) (a0 : Act) (w0 : World) (listed : Array Bool) (a : Act) (w : World) : Prop where
  size : listed.size = ops.size
  tsz : a.tmps.size = a0.tmps.size
  dfr : a.defers = a0.defers
  bel : R w0 w
  bef : ∀ s, (∀ (j : Nat) (oj : Oper), ops[j]? = some oj → oj.dst = some s → listed.getD j true = false) → a.tmps.getD s undef = a0.tmps.getD s undef
  up : ∀ (j k : Nat), j < ops.size → listed.getD j true = true → waits md ops j k = true → listed.getD k true = true
  got : ∀ (j : Nat) (oj : Oper) (d : Nat), ops[j]? = some oj → listed.getD j true = true → oj.dst = some d → Φ j (a.tmps.getD d undef) w

/-- A place that no operation writes. -/
def noDst (ops : Array Oper) (s : Nat) : Bool := ops.all fun o => !(o.dst == some s)
theorem noDst_spec {ops : Array Oper} {s : Nat} (h : noDst ops s = true) : ∀ (j : Nat) (oj : Oper), ops[j]? = some oj → oj.dst ≠ some s := fun j oj hj hd => by
  unfold noDst at h
  have := (Array.all_eq_true.1 h) j (Array.getElem?_eq_some_iff.1 hj).1
  rw [(Array.getElem?_eq_some_iff.1 hj).2, hd] at this
  simp at this
theorem put_same (a : Act) (d : Nat) (v : Value) (h : d < a.tmps.size) : (a.put (some d) v).tmps.getD d undef = v := by
  simp [Act.put, Array.getD_eq_getD_getElem?, h]
theorem put_ne (a : Act) (d s : Nat) (v : Value) (h : d ≠ s) : (a.put (some d) v).tmps.getD s undef = a.tmps.getD s undef := by
  simp [Act.put, Array.getD_eq_getD_getElem?, h]

theorem FactsAt.old {R : World → World → Prop} {Φ : Nat → Value → World → Prop} {a0 : Act} {w0 : World} {listed : Array Bool} {a : Act} {w : World} (h : FactsAt R Φ md ops a0 w0 listed a w) (s : Nat) (hs : ∀ (j : Nat) (oj : Oper), ops[j]? = some oj → oj.dst ≠ some s) : a.tmps.getD s undef = a0.tmps.getD s undef :=
  h.bef s fun j oj hj hd => absurd hd (hs j oj hj)
/-- Whatever writes s waits for i. -/
def lateDst (md : Region.Mode) (ops : Array Oper) (i s : Nat) : Bool := (List.range ops.size).all fun j => (ops[j]?).all fun o => !(o.dst == some s) || waits md ops j i
theorem FactsAt.early {R : World → World → Prop} {Φ : Nat → Value → World → Prop} {a0 : Act} {w0 : World} {listed : Array Bool} {a : Act} {w : World} (h : FactsAt R Φ md ops a0 w0 listed a w) {i : Nat} (hr : i ∈ Region.ready md ops listed) (s : Nat) (hs : lateDst md ops i s = true) : a.tmps.getD s undef = a0.tmps.getD s undef :=
  h.bef s fun j oj hj hd => by
    have hjs := (Array.getElem?_eq_some_iff.1 hj).1
    have h1 := List.all_eq_true.1 hs j (List.mem_range.2 hjs)
    rw [hj] at h1
    simp only [Option.all_some, hd, beq_self_eq_true, Bool.not_true, Bool.false_or] at h1
    cases hq : listed.getD j true
    · rfl
    · have := h.up j i hjs hq h1
      rw [(mem_ready.1 hr).1] at this; cases this

theorem facts_step (R : World → World → Prop) (hRt : ∀ {w w' w'' : World}, R w w' → R w' w'' → R w w'') (Φ : Nat → Value → World → Prop) (hst : ∀ i v w w', Φ i v w → R w w' → Φ i v w') (a0 : Act) (w0 : World) (hk : dstsOk a0.tmps.size ops = true)
    {listed : Array Bool} {a : Act} {w : World} {i : Nat} (hI : FactsAt R Φ md ops a0 w0 listed a w) (hr : i ∈ Region.ready md ops listed) (hs : ∀ oi, ops[i]? = some oi → Oper.wp P oi a w (fun a' w' => ∃ v, a' = a.put oi.dst v ∧ Φ i v w' ∧ R w w') Q) :
    wpOp P ops Q i (fun a' w' => FactsAt R Φ md ops a0 w0 (listed.setIfInBounds i true) a' w') a w := by
  obtain ⟨hun, oi, hoi, _⟩ := mem_ready.1 hr
  obtain ⟨hg, d, hdd, hdn, hoth⟩ := dstsOk_spec hk hoi
  have hs := hs oi hoi
  unfold wpOp
  simp only [hoi]
  have hw : Region.wanted oi (yielded ops a.tmps) = true := by simp [Region.wanted, hg]
  rw [if_pos hw]
  refine .inl ?_
  refine Oper.wp_mono (fun a' w' h => ?_) hs
  obtain ⟨v, rfl, hv, hb⟩ := h
  rw [hdd]
  refine ⟨by rw [Array.size_setIfInBounds]; exact hI.size, by simp [Act.put, hI.tsz], hI.dfr, hRt hI.bel hb, fun s hs' => ?_, fun j k hj hl hw' => ?_, fun j oj d' hj hl hd' => ?_⟩
  · have hne : d ≠ s := fun e => by
      have := hs' i oi hoi (by rw [hdd, e])
      rw [getD_set_same hun] at this; cases this
    rw [put_ne _ _ _ _ hne]
    refine hI.bef s fun j oj hj hd' => ?_
    have := hs' j oj hj hd'
    by_cases hij : i = j
    · subst hij; exact hun
    · rwa [getD_set_ne true hij] at this
  · by_cases hij : i = j
    · subst hij
      have := ready_dep hr k hw'
      by_cases hik : i = k
      · subst hik; exact getD_set_same hun
      · rw [getD_set_ne true hik]; exact this
    · rw [getD_set_ne true hij] at hl
      by_cases hik : i = k
      · subst hik; exact getD_set_same hun
      · rw [getD_set_ne true hik]; exact hI.up j k hj hl hw'
  · by_cases hij : j = i
    · subst hij
      rw [hoi] at hj; cases hj
      rw [hdd] at hd'; cases hd'
      rw [put_same _ _ _ (by rw [hI.tsz]; exact hdn)]
      exact hv
    · rw [getD_set_ne true (Ne.symm hij)] at hl
      rw [put_ne _ _ _ _ (fun e => hoth j oj hj hij (by rw [hd', e]))]
      exact hst j _ w w' (hI.got j oj d' hj hl hd') hb
theorem facts_zero (R : World → World → Prop) (hRr : ∀ w, R w w) (Φ : Nat → Value → World → Prop) (a0 : Act) (w0 : World) : FactsAt R Φ md ops a0 w0 (Array.replicate ops.size false) a0 w0 :=
  ⟨by simp, rfl, rfl, hRr _, fun _ _ => rfl, fun j k hj hl _ => by simp [Array.getD_eq_getD_getElem?, hj] at hl, fun j oj d hj hl _ => by
      have hi := (Array.getElem?_eq_some_iff.1 hj).1
      simp [Array.getD_eq_getD_getElem?, hi] at hl⟩
theorem wpAny_facts (R : World → World → Prop) (hRr : ∀ w, R w w) (hRt : ∀ {w w' w'' : World}, R w w' → R w' w'' → R w w'') (Φ : Nat → Value → World → Prop) (hst : ∀ i v w w', Φ i v w → R w w' → Φ i v w') (a0 : Act) (w0 : World) (hd : depsUp md ops = true) (hk : dstsOk a0.tmps.size ops = true)
    (hstep : ∀ listed a w i oi, FactsAt R Φ md ops a0 w0 listed a w → i ∈ Region.ready md ops listed → ops[i]? = some oi → Oper.wp P oi a w (fun a' w' => ∃ v, a' = a.put oi.dst v ∧ Φ i v w' ∧ R w w') Q)
    (hdone : ∀ a w, a.tmps.size = a0.tmps.size → a.defers = a0.defers → R w0 w → (∀ s, (∀ (j : Nat) (oj : Oper), ops[j]? = some oj → oj.dst ≠ some s) → a.tmps.getD s undef = a0.tmps.getD s undef) → (∀ (j : Nat) (oj : Oper) (d : Nat), ops[j]? = some oj → oj.dst = some d → Φ j (a.tmps.getD d undef) w) → Q .normal a w) :
    wpAny P md ops Q ops.size (Array.replicate ops.size false) a0 w0 := by
  refine wpAny_inv (fun listed a w => FactsAt R Φ md ops a0 w0 listed a w) ?_ ?_ _ _ _ _ ?_ ?_
  · exact fun listed a w i hI hr => facts_step R hRt Φ hst a0 w0 hk hI hr (hstep listed a w i · hI hr)
  · intro listed a w hI hr
    have hall := ready_nil hd hI.size hr
    exact hdone a w hI.tsz hI.dfr hI.bel hI.old (fun j oj d hj hd' => hI.got j oj d hj (hall j (Array.getElem?_eq_some_iff.1 hj).1) hd')
  · unfold togo
    exact Nat.le_trans (List.length_filter_le _ _) (by simp)
  · exact facts_zero R hRr Φ a0 w0

end
end Go.Proofs.YtfofpenajkaalaaDoor
