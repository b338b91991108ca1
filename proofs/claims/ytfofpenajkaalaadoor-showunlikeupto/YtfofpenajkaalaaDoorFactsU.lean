/-
  A region that draws its order, whose last operations wait for all the others: the first ones by what each place holds, the last ones one behind the other.
-/
import Derived.Test.YtfofpenajkaalaaDoorElement
namespace Go.Proofs.YtfofpenajkaalaaDoor
open Go.RowKit Go.Shelf

section
variable {P : Program} {ops : Array Oper} {md : Region.Mode} {Q : Exit → Act → World → Prop}

/-- The first n operations listed, none behind them. -/
def firsts (n m : Nat) : Array Bool := ((List.range m).map fun j => decide (j < n)).toArray
theorem firsts_of {listed : Array Bool} {n m : Nat} (hs : listed.size = m) (h1 : ∀ j, j < n → j < m → listed.getD j true = true) (h2 : ∀ j, n ≤ j → j < m → listed.getD j true = false) : listed = firsts n m := by
  apply Array.ext
  · simp [firsts, hs]
  · intro i hi _
    have e : listed.getD i true = listed[i] := by simp [Array.getD_eq_getD_getElem?, hi]
    rw [← e]
    simp only [firsts, List.getElem_toArray, List.getElem_map, List.getElem_range]
    rcases Nat.lt_or_ge i n with h | h
    · rw [h1 i h (by omega)]; simp [h]
    · rw [h2 i h (by omega)]; simp [Nat.not_lt.2 h]
theorem wpAny_until (n : Nat) (hd : depsUp md ops = true) (hn : n ≤ ops.size) (I : Array Bool → Act → World → Prop)
    (hw : ∀ listed a w j, I listed a w → n ≤ j → j ∈ Region.ready md ops listed → ∀ i, i < n → listed.getD i true = true)
    (hup : ∀ listed a w, I listed a w → listed.size = ops.size ∧ ∀ j, n ≤ j → j < ops.size → listed.getD j true = false)
    (hstep : ∀ listed a w i, I listed a w → i < n → i ∈ Region.ready md ops listed → wpOp P ops Q i (fun a' w' => I (listed.setIfInBounds i true) a' w') a w)
    (hfin : ∀ f a w, I (firsts n ops.size) a w → wpAny P md ops Q (f + (ops.size - n)) (firsts n ops.size) a w) :
    ∀ (fuel : Nat) (listed : Array Bool) (a : Act) (w : World), togo ops.size listed ≤ fuel → I listed a w → wpAny P md ops Q fuel listed a w := by
  intro fuel
  induction fuel with
  | zero =>
    intro listed a w hf hI
    obtain ⟨hs, h2⟩ := hup listed a w hI
    have h1 : ∀ j, j < ops.size → listed.getD j true = true := fun j hj => togo_zero (Nat.le_zero.1 hf) hj
    have hnn : n = ops.size := by
      rcases Nat.lt_or_ge n ops.size with h | h
      · have := h1 n h; rw [h2 n (Nat.le_refl _) h] at this; cases this
      · omega
    have e := firsts_of hs (fun j _ hj => h1 j hj) h2
    have := hfin 0 a w (e ▸ hI)
    rw [← e, hnn, Nat.sub_self] at this
    exact this
  | succ fuel ih =>
    intro listed a w hf hI
    obtain ⟨hs, h2⟩ := hup listed a w hI
    by_cases hall : ∀ j, j < n → listed.getD j true = true
    · have e := firsts_of hs (fun j hj _ => hall j hj) h2
      have hle : ops.size - n ≤ fuel + 1 := by
        have : togo ops.size listed = ops.size - n := by
          unfold togo
          have e2 : (List.range ops.size).filter (fun j => !(listed.getD j true)) = (List.range' n (ops.size - n)) := by
            have e3 : List.range ops.size = List.range n ++ List.range' n (ops.size - n) := by
              rw [List.range_eq_range', List.range_eq_range']
              have h := @List.range'_append_1 0 n (ops.size - n)
              rw [Nat.zero_add, show n + (ops.size - n) = ops.size by omega] at h
              exact h.symm
            rw [e3, List.filter_append]
            rw [List.filter_eq_nil_iff.2 (fun j hj => by rw [hall j (List.mem_range.1 hj)]; simp), List.nil_append]
            refine List.filter_eq_self.2 fun j hj => ?_
            have := List.mem_range'_1.1 hj
            rw [h2 j (by omega) (by omega)]; rfl
          rw [e2, List.length_range']
        omega
      have := hfin (fuel + 1 - (ops.size - n)) a w (e ▸ hI)
      rw [← e, show fuel + 1 - (ops.size - n) + (ops.size - n) = fuel + 1 by omega] at this
      exact this
    · obtain ⟨j0, hj0⟩ := Classical.not_forall.1 hall
      obtain ⟨hj0n, hj0f⟩ := Classical.not_imp.1 hj0
      have hj0f : listed.getD j0 true = false := by simpa using hj0f
      refine ⟨fun hr => ?_, fun i hi => ?_⟩
      · have := ready_nil hd hs hr j0 (by omega)
        rw [hj0f] at this; cases this
      · obtain ⟨hun, oi, hoi, _⟩ := mem_ready.1 hi
        have hio := (Array.getElem?_eq_some_iff.1 hoi).1
        have hin : i < n := by
          rcases Nat.lt_or_ge i n with h | h
          · exact h
          · exfalso
            have h1 := hw listed a w i hI h hi j0 hj0n
            rw [hj0f] at h1; cases h1
        have hlt := togo_set hio hun
        exact wpOp_mono (fun a' w' h' => ih _ a' w' (by omega) h') (hstep listed a w i hI hin hi)
theorem wpOp_of {i : Nat} {listed : Array Bool} {a : Act} {w : World} {K : Act → World → Prop} (hr : i ∈ Region.ready md ops listed)
    (h : ∀ oi, ops[i]? = some oi → if Region.wanted oi (yielded ops a.tmps) then Oper.wp P oi a w K Q else K (a.put oi.dst undef) w) : wpOp P ops Q i K a w := by
  obtain ⟨_, oi, hi, _⟩ := mem_ready.1 hr
  have h := h oi hi
  unfold wpOp
  simp only [hi]
  by_cases hwt : Region.wanted oi (yielded ops a.tmps) = true
  · rw [if_pos hwt] at h ⊢; exact .inl h
  · rw [if_neg hwt] at h ⊢; exact h
theorem wpAny_alone (i : Nat) {fuel : Nat} {listed : Array Bool} {a : Act} {w : World} (hr : Region.ready md ops listed = [i])
    (h : ∀ oi, ops[i]? = some oi → if Region.wanted oi (yielded ops a.tmps) then Oper.wp P oi a w (fun a' w' => wpAny P md ops Q fuel (listed.setIfInBounds i true) a' w') Q else wpAny P md ops Q fuel (listed.setIfInBounds i true) (a.put oi.dst undef) w) : wpAny P md ops Q (fuel + 1) listed a w := by
  have hm : i ∈ Region.ready md ops listed := by rw [hr]; simp
  refine ⟨fun h0 => (by rw [hr] at h0; cases h0), fun j hj => ?_⟩
  rw [hr, List.mem_singleton] at hj
  subst hj
  exact wpOp_of hm h

/-- j waits for i, or for what waits for it. -/
def reach (md : Region.Mode) (ops : Array Oper) : Nat → Nat → Nat → Bool
  | 0, j, i => waits md ops j i
  | f + 1, j, i => waits md ops j i || (List.range ops.size).any fun k => waits md ops j k && reach md ops f k i
theorem reach_up {listed : Array Bool} (hup : ∀ (j k : Nat), j < ops.size → listed.getD j true = true → waits md ops j k = true → listed.getD k true = true) : ∀ (f j i : Nat), (∀ k, waits md ops j k = true → listed.getD k true = true) → reach md ops f j i = true → listed.getD i true = true
  | 0, j, i, hj, h => hj i h
  | f + 1, j, i, hj, h => by
    rw [reach, Bool.or_eq_true] at h
    rcases h with h | h
    · exact hj i h
    · obtain ⟨k, hk, h2⟩ := List.any_eq_true.1 h
      rw [Bool.and_eq_true] at h2
      exact reach_up hup f k i (fun k' hk' => hup k k' (List.mem_range.1 hk) (hj k h2.1) hk') h2.2
/-- Whatever comes from n on waits for all that come ahead of it. -/
def lastOk (n : Nat) (md : Region.Mode) (ops : Array Oper) : Bool := (List.range ops.size).all fun j => decide (j < n) || (List.range n).all fun i => reach md ops 3 j i

theorem wpAny_facts_until (n : Nat) (hn : n ≤ ops.size) (hl : lastOk n md ops = true) (R : World → World → Prop) (hRr : ∀ w, R w w) (hRt : ∀ {w w' w'' : World}, R w w' → R w' w'' → R w w'') (Φ : Nat → Value → World → Prop) (hst : ∀ i v w w', Φ i v w → R w w' → Φ i v w') (a0 : Act) (w0 : World) (hd : depsUp md ops = true) (hk : dstsOk a0.tmps.size ops = true)
    (hstep : ∀ listed a w i oi, FactsAt R Φ md ops a0 w0 listed a w → i < n → i ∈ Region.ready md ops listed → ops[i]? = some oi → Oper.wp P oi a w (fun a' w' => ∃ v, a' = a.put oi.dst v ∧ Φ i v w' ∧ R w w') Q)
    (hfin : ∀ f a w, FactsAt R Φ md ops a0 w0 (firsts n ops.size) a w → wpAny P md ops Q (f + (ops.size - n)) (firsts n ops.size) a w) :
    wpAny P md ops Q ops.size (Array.replicate ops.size false) a0 w0 := by
  refine wpAny_until n hd hn (fun listed a w => FactsAt R Φ md ops a0 w0 listed a w ∧ ∀ j, n ≤ j → j < ops.size → listed.getD j true = false) ?_ ?_ ?_ ?_ _ _ _ _ ?_ ?_
  · rintro listed a w j ⟨hI, -⟩ hj hr i hi
    obtain ⟨-, oj, hoj, -⟩ := mem_ready.1 hr
    have h1 := List.all_eq_true.1 hl j (List.mem_range.2 (Array.getElem?_eq_some_iff.1 hoj).1)
    rw [Bool.or_eq_true] at h1
    rcases h1 with h1 | h1
    · exact absurd (of_decide_eq_true h1) (by omega)
    · exact reach_up hI.up 3 j i (fun k hk' => ready_dep hr k hk') (List.all_eq_true.1 h1 i (List.mem_range.2 hi))
  · rintro listed a w ⟨hI, h2⟩
    exact ⟨hI.size, h2⟩
  · rintro listed a w i ⟨hI, h2⟩ hi hr
    obtain ⟨hun, oi, hoi, _⟩ := mem_ready.1 hr
    refine wpOp_mono (fun a' w' h => ⟨h, fun j h1 h3 => ?_⟩) (facts_step R hRt Φ hst a0 w0 hk hI hr (hstep listed a w i · hI hi hr))
    rw [getD_set_ne true (by omega)]; exact h2 j h1 h3
  · rintro f a w ⟨hI, -⟩
    exact hfin f a w hI
  · unfold togo
    exact Nat.le_trans (List.length_filter_le _ _) (by simp)
  · exact ⟨facts_zero R hRr Φ a0 w0, fun j _ hj => by simp [Array.getD_eq_getD_getElem?, hj]⟩

theorem wpAny_over {listed : Array Bool} {a : Act} {w : World} (hr : Region.ready md ops listed = []) (h : Q .normal a w) (fuel : Nat) : wpAny P md ops Q fuel listed a w := by
  cases fuel with
  | zero => exact ⟨hr, h⟩
  | succ n => exact ⟨fun _ => h, by rw [hr]; simp⟩

/-- The places written, one behind the other. -/
def putsL (a a0 : Act) (ds : List Nat) : Act := ds.foldl (fun b d => b.put (some d) (a.tmps.getD d undef)) a0
theorem putsL_size (a : Act) (ds : List Nat) : ∀ a0 : Act, (putsL a a0 ds).tmps.size = a0.tmps.size ∧ (putsL a a0 ds).defers = a0.defers := by
  induction ds with
  | nil => intro a0; exact ⟨rfl, rfl⟩
  | cons d ds ih => intro a0; have := ih (a0.put (some d) (a.tmps.getD d undef)); exact ⟨this.1.trans (by simp [Act.put]), this.2⟩
theorem putsL_get (a : Act) (s : Nat) (hs : s < a.tmps.size) (ds : List Nat) : ∀ a0 : Act, a0.tmps.size = a.tmps.size → (putsL a a0 ds).tmps.getD s undef = if s ∈ ds then a.tmps.getD s undef else a0.tmps.getD s undef := by
  induction ds with
  | nil => intro a0 _; simp [putsL]
  | cons d ds ih =>
    intro a0 hz
    have h := ih (a0.put (some d) (a.tmps.getD d undef)) (by simp [Act.put, hz])
    have e : putsL a a0 (d :: ds) = putsL a (a0.put (some d) (a.tmps.getD d undef)) ds := rfl
    rw [e, h]
    by_cases h1 : s ∈ ds
    · simp [h1]
    · rw [if_neg h1]
      by_cases h2 : d = s
      · subst h2
        rw [put_same _ _ _ (by rw [hz]; exact hs), if_pos (List.mem_cons_self ..)]
      · rw [put_ne _ _ _ _ h2, if_neg (by simp [h1, Ne.symm h2])]
def dstsIn (ops : Array Oper) (ds : List Nat) : Bool := (List.range ops.size).all fun i => (ops[i]?).all fun o => o.dst.any fun d => ds.contains d
theorem FactsAt.act {R : World → World → Prop} {Φ : Nat → Value → World → Prop} {a0 : Act} {w0 : World} {listed : Array Bool} {a : Act} {w : World} (h : FactsAt R Φ md ops a0 w0 listed a w) (ds : List Nat) (hds : dstsIn ops ds = true) : a = putsL a a0 ds := by
  obtain ⟨h1, h2⟩ := putsL_size a ds a0
  have ht : a.tmps = (putsL a a0 ds).tmps := by
    apply Array.ext
    · rw [h1, h.tsz]
    · intro s hs hs'
      have hg := putsL_get a s hs ds a0 h.tsz.symm
      have e1 : a.tmps.getD s undef = a.tmps[s] := by simp [Array.getD_eq_getD_getElem?, hs]
      have e2 : (putsL a a0 ds).tmps.getD s undef = (putsL a a0 ds).tmps[s] := by simp [Array.getD_eq_getD_getElem?, hs']
      refine e1.symm.trans (Eq.trans ?_ e2)
      rw [hg]
      by_cases hn : s ∈ ds
      · rw [if_pos hn]
      · rw [if_neg hn]
        exact h.old s fun j oj hj hd => hn (by
          have h3 := List.all_eq_true.1 hds j (List.mem_range.2 (Array.getElem?_eq_some_iff.1 hj).1)
          rw [hj, Option.all_some, hd, Option.any_some] at h3
          simpa using h3)
  cases a with
  | mk t d =>
    have hd := h.dfr
    generalize hp : putsL { tmps := t, defers := d } a0 ds = p at *
    cases p with
    | mk t' d' =>
      simp only at ht h2 hd
      rw [ht, hd, h2]

end
end Go.Proofs.YtfofpenajkaalaaDoor
