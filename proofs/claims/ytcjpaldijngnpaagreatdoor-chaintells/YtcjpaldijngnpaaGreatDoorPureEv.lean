/-
  Schemas and changes, as lists: a schema that may be, behind a change that may be, is one, and another one; an event of it, moved, is an event of the new one.
  An event of a schema that may be, moved behind a change that may be, as lists: it is an event of the new schema; its values, by their names.
-/
import Derived.Test.YtcjpaldijngnpaaGreatDoorApply
import Derived.Test.YtcjpaldijngnpaaGreatDoorMove
import Derived.Test.YtcjpaldijngnpaaGreatDoorRefSch
import Derived.Test.YtcjpaldijngnpaaGreatDoorRefSame
import Derived.Sort.Walk0
namespace Go.Proofs.YtcjpaldijngnpaaGreatDoor
open Go.RowKit Go.Shelf

/-- A text's bytes. -/
abbrev key (x : Txt) : List UInt8 := x.1.toList
theorem less_iff (x y : Txt) : Op.bytesLess x.1.toList y.1.toList = true ↔ key x < key y := by rw [Go.Proofs.bytesLess_eq, decide_eq_true_eq]
theorem eqT_iff (nm : ByteArray) (x : Txt) : eqT nm x = true ↔ key x = nm.toList := by simp [eqT, key]

theorem fs_range (fs : List Fd) : (List.range fs.length).map (fd fs) = fs := by
  refine List.ext_getElem (by simp) fun j h1 h2 => ?_
  simp [fd, h2]
theorem ts_range (ts : List Ty) : (List.range ts.length).map (ty ts) = ts := by
  refine List.ext_getElem (by simp) fun j h1 h2 => ?_
  simp [ty, h2]
theorem fd_mem {fs : List Fd} {p : Nat} (h : p < fs.length) : fd fs p ∈ fs := by simp [fd, h]
theorem ty_mem {ts : List Ty} {p : Nat} (h : p < ts.length) : ty ts p ∈ ts := by simp [ty, h]

theorem placeN_some {ns : List Txt} {nm : ByteArray} {k : Nat} (h : placeN ns nm = some k) : ∃ hk : k < ns.length, key ns[k] = nm.toList ∧ ∀ j (hj : j < k), key (ns[j]'(Nat.lt_trans hj hk)) ≠ nm.toList := by
  unfold placeN at h
  obtain ⟨hk, h1, h2⟩ := List.findIdx?_eq_some_iff_getElem.1 h
  refine ⟨hk, (eqT_iff _ _).1 h1, fun j hj e => ?_⟩
  have := h2 j hj
  rw [(eqT_iff _ _).2 e] at this
  simp at this
theorem placeN_none {ns : List Txt} {nm : ByteArray} : placeN ns nm = none ↔ ∀ x ∈ ns, key x ≠ nm.toList := by
  unfold placeN
  rw [List.findIdx?_eq_none_iff]
  constructor
  · intro h x hx e
    have := h x hx
    rw [(eqT_iff _ _).2 e] at this
    cases this
  · intro h x hx
    cases he : eqT nm x
    · rfl
    · exact (h x hx ((eqT_iff _ _).1 he)).elim
theorem placeN_of {ns : List Txt} {nm : ByteArray} {k : Nat} (hk : k < ns.length) (h1 : key ns[k] = nm.toList) (h2 : ∀ j (hj : j < k), key (ns[j]'(Nat.lt_trans hj hk)) ≠ nm.toList) : placeN ns nm = some k := by
  unfold placeN
  refine List.findIdx?_eq_some_iff_getElem.2 ⟨hk, (eqT_iff _ _).2 h1, fun j hj => ?_⟩
  have := h2 j hj
  intro e
  exact this ((eqT_iff _ _).1 e)

/-- Fields that may be, as a list. -/
theorem schF_iff (fs : List Fd) : SchF fs ↔ fs.length ≤ 5 ∧ (∀ f ∈ fs, nameB f.1.1 = true ∧ 1 ≤ f.2 ∧ f.2 ≤ 3) ∧ fs.Pairwise (fun a b => key a.1 ≠ key b.1) := by
  have hn : ∀ p (hp : p < fs.length), fd fs p = fs[p] := fun p hp => by simp [fd, hp]
  constructor
  · rintro ⟨h1, h2⟩
    refine ⟨h1, fun f hf => ?_, ?_⟩
    · obtain ⟨p, hp, rfl⟩ := List.getElem_of_mem hf
      have := h2 p hp
      unfold SchFd at this
      rw [hn p hp] at this
      exact ⟨this.1, this.2.1, this.2.2.1⟩
    · rw [List.pairwise_iff_getElem]
      intro i j hi hj hij e
      have := (h2 j hj).2.2.2
      unfold placeI at this
      cases hp : placeN (fnames fs) (fd fs j).1.1 with
      | none => rw [hp] at this; simp at this
      | some q =>
        rw [hp] at this
        simp only at this
        have hqj : q = j := by omega
        subst hqj
        obtain ⟨hk, _, h4⟩ := placeN_some hp
        apply h4 i hij
        simp only [fnames, List.getElem_map]
        rw [e, hn q hj]
  · rintro ⟨h1, h2, h3⟩
    refine ⟨h1, fun p hp => ?_⟩
    unfold SchFd
    rw [hn p hp]
    obtain ⟨a, b, c⟩ := h2 _ (List.getElem_mem hp)
    refine ⟨a, b, c, ?_⟩
    have : placeN (fnames fs) fs[p].1.1 = some p := by
      refine placeN_of (by rw [fnames_len]; exact hp) (by simp [fnames]) fun j hj => ?_
      rw [List.pairwise_iff_getElem] at h3
      simp only [fnames, List.getElem_map]
      exact h3 j p (by omega) hp hj
    simp [placeI, this]

/-- Schemas that may be, as lists. -/
theorem sch_iff (ts : List Ty) : Sch ts ↔ ts.length ≤ 5 ∧ (∀ t ∈ ts, nameB t.1.1 = true ∧ SchF t.2) ∧ ts.Pairwise (fun a b => key a.1 < key b.1) := by
  have hn : ∀ p (hp : p < ts.length), ty ts p = ts[p] := fun p hp => by simp [ty, hp]
  constructor
  · rintro ⟨h1, h2⟩
    refine ⟨h1, fun t ht => ?_, ?_⟩
    · obtain ⟨p, hp, rfl⟩ := List.getElem_of_mem ht
      have := h2 p hp
      unfold SchT at this
      rw [hn p hp] at this
      exact ⟨this.1, this.2.2⟩
    · rw [List.pairwise_iff_getElem]
      intro i j hi hj hij
      obtain ⟨d, rfl⟩ : ∃ d, j = i + 1 + d := ⟨j - i - 1, by omega⟩
      clear hij
      have step : ∀ q (hq : q + 1 < ts.length), key (ts[q]'(by omega)).1 < key ts[q + 1].1 := fun q hq => by
        have := (h2 (q + 1) hq).2.1 (by omega)
        rw [less_iff, Nat.add_sub_cancel, hn q (by omega), hn (q + 1) hq] at this
        exact this
      induction d with
      | zero => exact step i hj
      | succ d ih => exact List.lt_trans (ih (by omega) step) (step (i + 1 + d) hj)
  · rintro ⟨h1, h2, h3⟩
    rw [List.pairwise_iff_getElem] at h3
    refine ⟨h1, fun k hk => ?_⟩
    unfold SchT
    rw [hn k hk]
    obtain ⟨a, b⟩ := h2 _ (List.getElem_mem hk)
    refine ⟨a, fun h0 => ?_, b⟩
    rw [less_iff, hn (k - 1) (by omega)]
    exact h3 (k - 1) k (by omega) hk (by omega)

theorem fNew_eq (nm : Txt) (c : Ch) (fs : List Fd) : fNew nm c fs = fs.filterMap (fchg (key nm == key c.t) c) ++ if (key nm == key c.t) && decide (c.k = 1) then [(c.f, c.dk)] else [] := by
  unfold fNew fAll
  rw [List.map_append]
  congr 1
  · unfold fTo
    rw [List.map_filterMap]
    conv => rhs; rw [← fs_range fs, List.filterMap_map]
    congr 1
    funext j
    simp only [Function.comp]
    cases fchg (key nm == key c.t) c (fd fs j) <;> rfl
  · split <;> rfl

/-- A change that suits the fields of the type that it is about. -/
structure Good (c : Ch) (fs : List Fd) : Prop where
  add : c.k = 1 → nameB c.f.1 = true ∧ isB c.dk c.dn c.ds.1 = true ∧ (∀ f ∈ fs, key f.1 ≠ key c.f) ∧ fs.length < 5
  ren : c.k = 3 → nameB c.o.1 = true ∧ ∀ f ∈ fs, key f.1 ≠ key c.o
  wid : c.k = 4 → ∀ f ∈ fs, key f.1 = key c.f → f.2 = 3
  there : c.k = 2 ∨ c.k = 3 ∨ c.k = 4 → ∃ f ∈ fs, key f.1 = key c.f

theorem hasB_iff (fs : List Fd) (s : ByteArray) : hasB fs s = false ↔ ∀ f ∈ fs, key f.1 ≠ s.toList := by
  unfold hasB
  rw [Option.isSome_eq_false_iff, Option.isNone_iff_eq_none, placeN_none]
  simp [fnames]

theorem good_of {ts : List Ty} {c : Ch} {j : Nat} (hS : Sch ts) (h0 : refE ts c = 0) (hp : placeN (tnames ts) c.t.1 = some j) : c.k ≠ 5 ∧ Good c (ty ts j).2 := by
  have hjl : j < ts.length := by have := placeN_lt hp; rwa [tnames_len] at this
  have hF := (schF_iff _).1 ((sch_iff ts).1 hS |>.2.1 _ (ty_mem hjl)).2
  unfold refE at h0
  rw [hp] at h0
  cases hf : formedB c
  · rw [hf] at h0; simp at h0
  rw [hf] at h0
  simp only [if_true] at h0
  by_cases h5 : c.k = 5
  · rw [if_pos h5] at h0; simp at h0
  rw [if_neg h5] at h0
  have hk : c.k = 1 ∨ c.k = 2 ∨ c.k = 3 ∨ c.k = 4 := by
    unfold formedB at hf
    rw [Bool.and_eq_true] at hf
    have hb := hf.2
    unfold bareB at hb
    by_cases h1 : c.k = 1
    · exact .inl h1
    by_cases h2 : c.k = 2
    · exact .inr (.inl h2)
    by_cases h3 : c.k = 3
    · exact .inr (.inr (.inl h3))
    by_cases h4 : c.k = 4
    · exact .inr (.inr (.inr h4))
    simp [h1, h2, h3, h4, h5] at hb
  refine ⟨h5, ?_⟩
  by_cases h1 : c.k = 1
  · rw [if_pos h1] at h0
    unfold addE at h0
    cases hN : nameB c.f.1 && isB c.dk c.dn c.ds.1
    · rw [hN] at h0; simp at h0
    rw [hN] at h0
    simp only [if_true] at h0
    cases hH : hasB (ty ts j).2 c.f.1
    · rw [hH] at h0
      by_cases hl : 5 ≤ (ty ts j).2.length
      · simp [hl] at h0
      rw [Bool.and_eq_true] at hN
      exact ⟨fun _ => ⟨hN.1, hN.2, (hasB_iff _ _).1 hH, by omega⟩, fun h => by omega, fun h => by omega, fun h => by omega⟩
    · rw [hH] at h0; simp at h0
  · rw [if_neg h1] at h0
    unfold atE at h0
    cases hq : placeN (fnames (ty ts j).2) c.f.1 with
    | none => rw [hq] at h0; simp at h0
    | some p =>
      rw [hq] at h0
      obtain ⟨hpl, hpe, _⟩ := placeN_some hq
      have hpl' : p < (ty ts j).2.length := by rwa [fnames_len] at hpl
      have hpe' : key (fd (ty ts j).2 p).1 = key c.f := by
        refine Eq.trans ?_ hpe; simp [fnames, fd, hpl']
      have hthere : ∃ f ∈ (ty ts j).2, key f.1 = key c.f := ⟨_, fd_mem hpl', hpe'⟩
      simp only at h0
      by_cases h3 : c.k = 3
      · rw [if_pos h3] at h0
        cases hN : nameB c.o.1
        · rw [hN] at h0; simp at h0
        cases hH : hasB (ty ts j).2 c.o.1
        · exact ⟨fun h => by omega, fun _ => ⟨hN, (hasB_iff _ _).1 hH⟩, fun h => by omega, fun _ => hthere⟩
        · rw [hN, hH] at h0; simp at h0
      · rw [if_neg h3] at h0
        by_cases h4 : c.k = 4
        · rw [if_pos h4] at h0
          by_cases hb : (fd (ty ts j).2 p).2 = 3
          · refine ⟨fun h => by omega, fun h => by omega, fun _ f hf he => ?_, fun _ => hthere⟩
            obtain ⟨q, hq', rfl⟩ := List.getElem_of_mem hf
            have hqp : q = p := by
              rcases Nat.lt_trichotomy q p with hlt | rfl | hlt
              · exact (List.pairwise_iff_getElem.1 hF.2.2 q p hq' hpl' hlt (by rw [he, ← hpe']; simp [fd, hpl'])).elim
              · rfl
              · exact (List.pairwise_iff_getElem.1 hF.2.2 p q hpl' hq' hlt (by rw [he, ← hpe']; simp [fd, hpl'])).elim
            subst hqp
            simpa [fd, hq'] using hb
          · rw [if_neg hb] at h0; simp at h0
        · exact ⟨fun h => by omega, fun h => by omega, fun h => by omega, fun _ => hthere⟩

theorem isB_kind {k n : Int} {s : ByteArray} (h : isB k n s = true) : 1 ≤ k ∧ k ≤ 3 := by
  unfold isB at h
  by_cases h1 : k = 1
  · omega
  by_cases h2 : k = 2
  · omega
  by_cases h3 : k = 3
  · omega
  simp [h1, h2, h3] at h

/-- What a field is behind a change. -/
theorem fchg_some {mine : Bool} {c : Ch} {f g : Fd} (h : fchg mine c f = some g) : g = f ∨ (mine = true ∧ c.k = 3 ∧ key f.1 = key c.f ∧ g = (c.o, f.2)) ∨ (mine = true ∧ c.k = 4 ∧ key f.1 = key c.f ∧ g = (f.1, 1)) := by
  unfold fchg at h
  by_cases hm : (mine && (f.1.1.toList == c.f.1.toList)) = true
  · rw [if_pos hm] at h
    rw [Bool.and_eq_true, beq_iff_eq] at hm
    by_cases h2 : c.k = 2
    · rw [if_pos h2] at h; cases h
    rw [if_neg h2] at h
    by_cases h3 : c.k = 3
    · rw [if_pos h3] at h; cases h; exact .inr (.inl ⟨hm.1, h3, hm.2, rfl⟩)
    rw [if_neg h3] at h
    by_cases h4 : c.k = 4
    · rw [if_pos h4] at h; cases h; exact .inr (.inr ⟨hm.1, h4, hm.2, rfl⟩)
    rw [if_neg h4] at h; cases h; exact .inl rfl
  · rw [if_neg hm] at h; cases h; exact .inl rfl

theorem schF_new {nm : Txt} {c : Ch} {fs : List Fd} (hF : SchF fs) (hG : key nm = key c.t → Good c fs) : SchF (fNew nm c fs) := by
  obtain ⟨h1, h2, h3⟩ := (schF_iff fs).1 hF
  rw [fNew_eq]
  by_cases hm : key nm = key c.t
  · have hG := hG hm
    have hmb : (key nm == key c.t) = true := by simp [hm]
    rw [hmb]
    have hlen : (fs.filterMap (fchg true c)).length ≤ fs.length := List.length_filterMap_le _ _
    have hel : ∀ g ∈ fs.filterMap (fchg true c), nameB g.1.1 = true ∧ 1 ≤ g.2 ∧ g.2 ≤ 3 := by
      intro g hg
      obtain ⟨f, hf, e⟩ := List.mem_filterMap.1 hg
      obtain ⟨n1, n2, n3⟩ := h2 f hf
      rcases fchg_some e with rfl | ⟨_, hk, _, rfl⟩ | ⟨_, hk, _, rfl⟩
      · exact ⟨n1, n2, n3⟩
      · exact ⟨(hG.ren hk).1, n2, n3⟩
      · exact ⟨n1, by simp, by simp⟩
    have hpw : (fs.filterMap (fchg true c)).Pairwise (fun a b => key a.1 ≠ key b.1) := by
      rw [List.pairwise_filterMap]
      refine List.Pairwise.imp_of_mem ?_ h3
      intro a a' ha ha' hne b hb b' hb'
      rcases fchg_some hb with rfl | ⟨_, hk, e1, rfl⟩ | ⟨_, hk, e1, rfl⟩
      · rcases fchg_some hb' with rfl | ⟨_, hk', e1', rfl⟩ | ⟨_, hk', e1', rfl⟩
        · exact hne
        · exact (hG.ren hk').2 _ ha
        · exact hne
      · rcases fchg_some hb' with rfl | ⟨_, hk', e1', rfl⟩ | ⟨_, hk', e1', rfl⟩
        · exact fun e => (hG.ren hk).2 _ ha' e.symm
        · exact (hne (e1.trans e1'.symm)).elim
        · omega
      · rcases fchg_some hb' with rfl | ⟨_, hk', e1', rfl⟩ | ⟨_, hk', e1', rfl⟩
        · exact hne
        · omega
        · exact hne
    by_cases hk1 : c.k = 1
    · obtain ⟨a1, a2, a3, a4⟩ := hG.add hk1
      obtain ⟨b1, b2⟩ := isB_kind a2
      rw [schF_iff]
      simp only [hk1, decide_true, Bool.and_self, if_true]
      refine ⟨by simp; omega, fun g hg => ?_, ?_⟩
      · rcases List.mem_append.1 hg with hg | hg
        · exact hel g hg
        · simp only [List.mem_singleton] at hg; subst hg; exact ⟨a1, b1, b2⟩
      · rw [List.pairwise_append]
        refine ⟨hpw, List.pairwise_singleton _ _, fun g hg g' hg' => ?_⟩
        simp only [List.mem_singleton] at hg'
        subst hg'
        obtain ⟨f, hf, e⟩ := List.mem_filterMap.1 hg
        rcases fchg_some e with rfl | ⟨_, hk, _, rfl⟩ | ⟨_, hk, _, rfl⟩
        · exact a3 _ hf
        · omega
        · omega
    · have : ((true : Bool) && decide (c.k = 1)) = false := by simp [hk1]
      rw [this, schF_iff]
      simp only [Bool.false_eq_true, if_false, List.append_nil]
      exact ⟨by omega, hel, hpw⟩
  · have hmb : (key nm == key c.t) = false := by simp [hm]
    have e : fs.filterMap (fchg false c) = fs := by
      have : fchg false c = some := by funext f; simp [fchg]
      rw [this, List.filterMap_some]
    rw [hmb, e]
    simpa using hF

/-- The new type's place. -/
theorem tTo_ins (c : Ch) (ts : List Ty) (h5 : c.k = 5) (k : Nat) (hk : k ≤ ts.length) :
    (plTo c ts k = false ∧ tTo c ts k = ts.take k ∧ ∀ i, i < k → lessT c.t (ty ts i).1 = false) ∨
    (plTo c ts k = true ∧ ∃ m, m < k ∧ tTo c ts k = ts.take m ++ [(c.t, [])] ++ (ts.take k).drop m ∧ lessT c.t (ty ts m).1 = true ∧ ∀ i, i < m → lessT c.t (ty ts i).1 = false) := by
  have hid : ∀ t, chgT c t = t := fun t => chgT_no c t (by omega)
  induction k with
  | zero => exact .inl ⟨by simp [plTo, h5], by simp [tTo], fun i hi => by omega⟩
  | succ k ih =>
    have htk : ts.take (k + 1) = ts.take k ++ [ty ts k] := by
      rw [List.take_succ_eq_append_getElem (by omega)]; simp [ty, show k < ts.length by omega]
    rcases ih (by omega) with ⟨h1, h2, h3⟩ | ⟨h1, m, hm, h2, h3, h4⟩
    · cases hl : lessT c.t (ty ts k).1
      · refine .inl ⟨by simp [plTo, h1, hl], by rw [tTo, h1, hl, h2, htk, hid]; simp, fun i hi => ?_⟩
        by_cases e : i = k
        · subst e; exact hl
        · exact h3 i (by omega)
      · refine .inr ⟨by simp [plTo, h1, hl], k, by omega, ?_, hl, h3⟩
        rw [tTo, h1, hl, h2, hid]
        have : (ts.take (k + 1)).drop k = [ty ts k] := by
          rw [htk, List.drop_append_of_le_length (by simp; omega)]
          rw [List.drop_of_length_le (by simp; omega)]
          rfl
        rw [this]
        simp
    · refine .inr ⟨by simp [plTo, h1], m, by omega, ?_, h3, h4⟩
      rw [tTo, h1, h2, hid, htk, List.drop_append_of_le_length (by simp; omega)]
      simp
theorem tNew_ins (c : Ch) (ts : List Ty) (h5 : c.k = 5) : ∃ m, m ≤ ts.length ∧ tNew c ts = ts.take m ++ [(c.t, [])] ++ ts.drop m ∧ (m < ts.length → lessT c.t (ty ts m).1 = true) ∧ ∀ i, i < m → lessT c.t (ty ts i).1 = false := by
  rcases tTo_ins c ts h5 ts.length (Nat.le_refl _) with ⟨h1, h2, h3⟩ | ⟨h1, m, hm, h2, h3, h4⟩
  · refine ⟨ts.length, Nat.le_refl _, ?_, fun h => by omega, h3⟩
    rw [tNew, h1, h2]; simp
  · refine ⟨m, by omega, ?_, fun _ => h3, h4⟩
    rw [tNew, h1, h2]; simp

theorem lessT_iff (x y : Txt) : lessT x y = true ↔ key x < key y := less_iff x y
theorem key_tri {x y : Txt} (h1 : lessT x y = false) (h2 : key y ≠ key x) : key y < key x := by
  have hn : ¬ key x < key y := fun h => by rw [(lessT_iff x y).2 h] at h1; cases h1
  rcases List.le_total (key x) (key y) with h | h
  · exact (h2 (List.le_antisymm (List.not_lt.1 hn) h)).elim
  · rcases Decidable.em (key y < key x) with h' | h'
    · exact h'
    · exact (h2 (List.le_antisymm h (List.not_lt.1 h'))).elim

/-- What refE says of the change's own type. -/
theorem ref_cases {ts : List Ty} {c : Ch} (h0 : refE ts c = 0) : nameB c.t.1 = true ∧ ((c.k = 5 ∧ (∀ t ∈ ts, key t.1 ≠ key c.t) ∧ ts.length < 5) ∨ (c.k ≠ 5 ∧ ∃ j, placeN (tnames ts) c.t.1 = some j)) := by
  unfold refE at h0
  cases hf : formedB c
  · rw [hf] at h0; simp at h0
  rw [hf] at h0
  simp only [if_true] at h0
  refine ⟨by unfold formedB at hf; rw [Bool.and_eq_true] at hf; exact hf.1, ?_⟩
  cases hp : placeN (tnames ts) c.t.1 with
  | none =>
    rw [hp] at h0
    simp only at h0
    by_cases h5 : c.k = 5
    · rw [if_pos h5] at h0
      refine .inl ⟨h5, fun t ht => ?_, ?_⟩
      · exact placeN_none.1 hp t.1 (List.mem_map_of_mem ht)
      · by_cases hl : 5 ≤ ts.length
        · rw [if_pos hl] at h0; simp at h0
        · omega
    · rw [if_neg h5] at h0; simp at h0
  | some j =>
    rw [hp] at h0
    simp only at h0
    by_cases h5 : c.k = 5
    · rw [if_pos h5] at h0; simp at h0
    · exact .inr ⟨h5, j, rfl⟩

theorem key_uniq {ts : List Ty} (hp : ts.Pairwise (fun a b => key a.1 < key b.1)) {a b : Ty} (ha : a ∈ ts) (hb : b ∈ ts) (e : key a.1 = key b.1) : a = b := by
  obtain ⟨i, hi, rfl⟩ := List.getElem_of_mem ha
  obtain ⟨j, hj, rfl⟩ := List.getElem_of_mem hb
  rw [List.pairwise_iff_getElem] at hp
  rcases Nat.lt_trichotomy i j with h | rfl | h
  · have := hp i j hi hj h; rw [e] at this; exact (List.lt_irrefl _ this).elim
  · rfl
  · have := hp j i hj hi h; rw [e] at this; exact (List.lt_irrefl _ this).elim

theorem place_key {ts : List Ty} {nm : ByteArray} {j : Nat} (hp : placeN (tnames ts) nm = some j) : j < ts.length ∧ key (ty ts j).1 = nm.toList := by
  have hjl : j < ts.length := by have := placeN_lt hp; rwa [tnames_len] at this
  obtain ⟨hk, h1, _⟩ := placeN_some hp
  refine ⟨hjl, Eq.trans ?_ h1⟩
  simp [tnames, ty, hjl]

/-- Every type of a schema that may be suits a change that may be. -/
theorem good_all {ts : List Ty} {c : Ch} (hS : Sch ts) (h0 : refE ts c = 0) (h5 : c.k ≠ 5) : ∀ t ∈ ts, key t.1 = key c.t → Good c t.2 := by
  intro t ht e
  rcases (ref_cases h0).2 with ⟨h, _⟩ | ⟨_, j, hp⟩
  · exact (h5 h).elim
  obtain ⟨hjl, hk⟩ := place_key hp
  have : t = ty ts j := key_uniq ((sch_iff ts).1 hS).2.2 ht (ty_mem hjl) (e.trans hk.symm)
  rw [this]
  exact (good_of hS h0 hp).2

theorem sch_new {ts : List Ty} {c : Ch} (hS : Sch ts) (h0 : refE ts c = 0) : Sch (tNew c ts) := by
  obtain ⟨h1, h2, h3⟩ := (sch_iff ts).1 hS
  obtain ⟨hn, hc⟩ := ref_cases h0
  rw [sch_iff]
  by_cases h5 : c.k = 5
  · rcases hc with ⟨_, hno, hl⟩ | ⟨h, _⟩
    · obtain ⟨m, hm, e, hm1, hm2⟩ := tNew_ins c ts h5
      rw [e]
      have htd := List.take_append_drop m ts
      refine ⟨by simp; omega, fun t ht => ?_, ?_⟩
      · rcases List.mem_append.1 ht with ht | ht
        · rcases List.mem_append.1 ht with ht | ht
          · exact h2 t (List.mem_of_mem_take ht)
          · simp only [List.mem_singleton] at ht
            subst ht
            exact ⟨hn, by simp [SchF]⟩
        · exact h2 t (List.mem_of_mem_drop ht)
      · have hpw := h3
        rw [← htd, List.pairwise_append] at hpw
        rw [List.append_assoc, List.pairwise_append]
        have hle : ∀ b ∈ ts.drop m, key c.t < key b.1 := by
          intro b hb
          obtain ⟨i, hi, rfl⟩ := List.getElem_of_mem hb
          have hml : m < ts.length := by simp at hi; omega
          have hcm := (lessT_iff _ _).1 (hm1 hml)
          rw [show ty ts m = ts[m] by simp [ty, hml]] at hcm
          rw [List.getElem_drop]
          by_cases hi0 : i = 0
          · subst hi0; exact hcm
          · exact List.lt_trans hcm (List.pairwise_iff_getElem.1 h3 m (m + i) hml (by simp at hi; omega) (by omega))
        refine ⟨hpw.1, List.pairwise_append.2 ⟨List.pairwise_singleton _ _, hpw.2.1, fun a ha b hb => ?_⟩, fun a ha b hb => ?_⟩
        · simp only [List.mem_singleton] at ha; subst ha; exact hle b hb
        · rcases List.mem_append.1 hb with hb | hb
          · simp only [List.mem_singleton] at hb
            subst hb
            obtain ⟨i, hi, rfl⟩ := List.getElem_of_mem ha
            simp only [List.length_take] at hi
            rw [List.getElem_take]
            have := hm2 i (by omega)
            rw [show ty ts i = ts[i] by simp [ty, show i < ts.length by omega]] at this
            exact key_tri this (hno _ (List.getElem_mem _))
          · exact hpw.2.2 a ha b hb
    · exact (h h5).elim
  · have hg := good_all hS h0 h5
    rw [tNew_map c ts h5]
    refine ⟨by simpa using h1, fun t ht => ?_, ?_⟩
    · obtain ⟨u, hu, rfl⟩ := List.mem_map.1 ht
      exact ⟨(h2 u hu).1, schF_new (h2 u hu).2 (hg u hu)⟩
    · rw [List.pairwise_map]
      exact h3

theorem new_ne {ts : List Ty} {c : Ch} (hS : Sch ts) (h0 : refE ts c = 0) : tNew c ts ≠ ts := by
  intro e
  obtain ⟨hn, hc⟩ := ref_cases h0
  rcases hc with ⟨h5, _, _⟩ | ⟨h5, j, hp⟩
  · obtain ⟨m, hm, e', _, _⟩ := tNew_ins c ts h5
    rw [e'] at e
    have := congrArg List.length e
    simp at this
    omega
  · obtain ⟨hjl, hk⟩ := place_key hp
    obtain ⟨_, hG⟩ := good_of hS h0 hp
    rw [tNew_map c ts h5] at e
    have hj : chgT c (ty ts j) = ty ts j := by
      have := congrArg (fun l => l[j]?) e
      simp only [List.getElem?_map] at this
      simp only [show ts[j]? = some (ty ts j) by simp [ty, hjl]] at this
      simpa using this
    have hf : fNew (ty ts j).1 c (ty ts j).2 = (ty ts j).2 := congrArg Prod.snd hj
    rw [fNew_eq, show (key (ty ts j).1 == key c.t) = true by simp [hk]] at hf
    have hk' : c.k = 1 ∨ c.k = 2 ∨ c.k = 3 ∨ c.k = 4 := by
      unfold refE at h0
      cases hfo : formedB c
      · rw [hfo] at h0; simp at h0
      unfold formedB at hfo
      rw [Bool.and_eq_true] at hfo
      have hb := hfo.2
      unfold bareB at hb
      by_cases h1 : c.k = 1
      · exact .inl h1
      by_cases h2 : c.k = 2
      · exact .inr (.inl h2)
      by_cases h3 : c.k = 3
      · exact .inr (.inr (.inl h3))
      by_cases h4 : c.k = 4
      · exact .inr (.inr (.inr h4))
      simp [h1, h2, h3, h4, h5] at hb
    obtain ⟨fs, hfs⟩ : ∃ fs, fs = (ty ts j).2 := ⟨_, rfl⟩
    rw [← hfs] at hf hG
    by_cases h1 : c.k = 1
    · have hid : fs.filterMap (fchg true c) = fs := by
        have : fchg true c = some := by funext f; exact fchg_no true c (by omega) (by omega) (by omega) f
        rw [this, List.filterMap_some]
      rw [hid] at hf
      have := congrArg List.length hf
      simp [h1] at this
    · have hcl : ((true : Bool) && decide (c.k = 1)) = false := by simp [h1]
      rw [hcl] at hf
      simp only [Bool.false_eq_true, if_false, List.append_nil] at hf
      obtain ⟨f, hfm, hfe⟩ := hG.there (by omega)
      have hmb : ((true : Bool) && (f.1.1.toList == c.f.1.toList)) = true := by simp; exact hfe
      by_cases h2 : c.k = 2
      · have : (fs.filterMap (fchg true c)).length < fs.length := by
          have hx : ∀ l : List Fd, f ∈ l → (l.filterMap (fchg true c)).length < l.length := by
            intro l
            induction l with
            | nil => intro h; simp at h
            | cons a l ih =>
              intro h
              have hle : (l.filterMap (fchg true c)).length ≤ l.length := List.length_filterMap_le _ _
              rcases List.mem_cons.1 h with rfl | h
              · have : fchg true c f = none := by unfold fchg; rw [if_pos hmb, if_pos h2]
                rw [List.filterMap_cons, this]
                simp only [List.length_cons]
                omega
              · have := ih h
                rw [List.filterMap_cons]
                split <;> simp only [List.length_cons] <;> omega
          exact hx fs hfm
        rw [hf] at this
        omega
      · have hx : ∀ g, g ∈ fs → ∀ g', fchg true c g = some g' → g' ∈ fs := fun g hg g' e => by
          rw [← hf]; exact List.mem_filterMap.2 ⟨g, hg, e⟩
        by_cases h3 : c.k = 3
        · have := hx f hfm (c.o, f.2) (by unfold fchg; rw [if_pos hmb, if_neg h2, if_pos h3])
          exact (hG.ren h3).2 _ this rfl
        · have h4 : c.k = 4 := by omega
          have := hx f hfm (f.1, 1) (by unfold fchg; rw [if_pos hmb, if_neg h2, if_neg h3, if_pos h4])
          have := hG.wid h4 _ this hfe
          simp at this

end Go.Proofs.YtcjpaldijngnpaaGreatDoor

namespace Go.Proofs.YtcjpaldijngnpaaGreatDoor
open Go.RowKit Go.Shelf

/-- The type of that name. -/
def findT (ts : List Ty) (nm : ByteArray) : Option Ty := ts.find? fun t => eqT nm t.1
theorem findT_place (ts : List Ty) (nm : ByteArray) : findT ts nm = (placeN (tnames ts) nm).map (ty ts) := by
  unfold findT
  cases hp : placeN (tnames ts) nm with
  | none =>
    rw [Option.map_none, List.find?_eq_none]
    intro t ht
    have := placeN_none.1 hp t.1 (List.mem_map_of_mem ht)
    intro e
    exact this ((eqT_iff _ _).1 e)
  | some k =>
    obtain ⟨hkl, hk⟩ := place_key hp
    obtain ⟨hl, _, h2⟩ := placeN_some hp
    rw [Option.map_some, List.find?_eq_some_iff_getElem]
    refine ⟨(eqT_iff _ _).2 hk, k, hkl, by simp [ty, hkl], fun j hj => ?_⟩
    have := h2 j hj
    simp only [tnames, List.getElem_map] at this
    cases he : eqT nm ts[j].1
    · rfl
    · exact (this ((eqT_iff _ _).1 he)).elim
theorem findT_new {ts : List Ty} {c : Ch} {nm : ByteArray} (h : c.k ≠ 5 ∨ key c.t ≠ nm.toList) : findT (tNew c ts) nm = (findT ts nm).map (chgT c) := by
  by_cases h5 : c.k = 5
  · have hne : key c.t ≠ nm.toList := by rcases h with h | h; exact (h h5).elim; exact h
    obtain ⟨m, hm, e, _, _⟩ := tNew_ins c ts h5
    have hid : chgT c = id := by funext t; exact chgT_no c t (by omega)
    have hno : eqT nm c.t = false := by
      cases he : eqT nm c.t
      · rfl
      · exact (hne ((eqT_iff _ _).1 he)).elim
    rw [e, hid, Option.map_id, id]
    unfold findT
    conv => rhs; rw [← List.take_append_drop m ts]
    rw [List.find?_append, List.find?_append, List.find?_append]
    simp [hno]
  · rw [tNew_map c ts h5]
    unfold findT
    rw [List.find?_map]
    rfl

/-- event's Is by the type that is found. -/
def isEf (o : Option Ty) (x : Ev) : Int :=
  match o with
  | none => 13
  | some t => if wholeB t.2.length x.ts x.vs then (if kindsB (slTo t.2 x.vs (min t.2.length x.vs.length)) then 0 else 14) else 10
theorem isE_find (ts : List Ty) (x : Ev) : isE ts x = isEf (findT ts x.ty.1) x := by
  unfold isE isEf
  rw [findT_place]
  cases placeN (tnames ts) x.ty.1 <;> rfl
/-- That nothing is wrong with an event, said of its type's fields. -/
structure EvOk (fs : List Fd) (tm : Int) (vs : List Vl) : Prop where
  tm : 0 ≤ tm ∧ tm ≤ 1073741824
  len : vs.length = fs.length
  val : ∀ v ∈ vs, isB v.1 v.2.1 v.2.2.1 = true
  kind : ∀ i, i < fs.length → (vl vs i).1 = (fd fs i).2
theorem isEf_ok {t : Ty} {x : Ev} : isEf (some t) x = 0 ↔ EvOk t.2 x.ts x.vs := by
  unfold isEf
  simp only
  constructor
  · intro h
    cases hw : wholeB t.2.length x.ts x.vs
    · rw [hw] at h; simp at h
    rw [hw] at h
    simp only [if_true] at h
    cases hk : kindsB (slTo t.2 x.vs (min t.2.length x.vs.length))
    · rw [hk] at h; simp at h
    unfold wholeB at hw
    simp only [Bool.and_eq_true, decide_eq_true_eq, Bool.not_eq_true'] at hw
    refine ⟨hw.1.1, hw.1.2, fun v hv => ?_, fun i hi => ?_⟩
    · have := hw.2
      unfold anyNo at this
      rw [List.any_eq_false] at this
      have := this v hv
      simpa [noV] using this
    · unfold kindsB slTo at hk
      rw [List.all_eq_true] at hk
      have := hk (fd t.2 i, vl x.vs i) (List.mem_map.2 ⟨i, by rw [List.mem_range]; have := hw.1.2; omega, rfl⟩)
      simpa using this
  · rintro ⟨h1, h2, h3, h4⟩
    have hw : wholeB t.2.length x.ts x.vs = true := by
      unfold wholeB
      simp only [Bool.and_eq_true, decide_eq_true_eq, Bool.not_eq_true']
      refine ⟨⟨h1, h2⟩, ?_⟩
      unfold anyNo
      rw [List.any_eq_false]
      intro v hv
      simp [noV, h3 v hv]
    have hk : kindsB (slTo t.2 x.vs (min t.2.length x.vs.length)) = true := by
      unfold kindsB slTo
      rw [List.all_eq_true]
      intro y hy
      obtain ⟨i, hi, rfl⟩ := List.mem_map.1 hy
      rw [List.mem_range] at hi
      simpa using h4 i (by omega)
    rw [hw, hk]; rfl

/-- What the walk over fields gives, each. -/
theorem fAll_mem {mine : Bool} {c : Ch} {fs : List Fd} {x : Pf} (h : x ∈ fAll mine c fs) : (∃ j, j < fs.length ∧ x.1 = (j : Int) ∧ fchg mine c (fd fs j) = some x.2) ∨ (mine = true ∧ c.k = 1 ∧ x = (-1, (c.f, c.dk))) := by
  unfold fAll at h
  rcases List.mem_append.1 h with h | h
  · unfold fTo at h
    obtain ⟨j, hj, e⟩ := List.mem_filterMap.1 h
    rw [List.mem_range] at hj
    cases hf : fchg mine c (fd fs j) with
    | none => rw [hf] at e; simp at e
    | some g =>
      rw [hf] at e
      simp only [Option.map_some, Option.some.injEq] at e
      subst e
      exact .inl ⟨j, hj, rfl, hf⟩
  · split at h
    · rename_i hc
      simp only [List.mem_singleton] at h
      rw [Bool.and_eq_true, decide_eq_true_eq] at hc
      exact .inr ⟨hc.1, hc.2, h⟩
    · simp at h

/-- An event's values, moved, suit the new fields. -/
theorem evOk_new {nm : Txt} {c : Ch} {fs : List Fd} {tm : Int} {vs : List Vl} (hE : EvOk fs tm vs) (hG : key nm = key c.t → Good c fs) : EvOk (fNew nm c fs) tm (vNew nm c fs vs) := by
  obtain ⟨h1, h2, h3, h4⟩ := hE
  have hat : ∀ j, j < fs.length → vl vs j ∈ vs := fun j hj => by simp [vl, show j < vs.length by omega]
  refine ⟨h1, by simp [vNew, fNew], fun v hv => ?_, fun i hi => ?_⟩
  · unfold vNew at hv
    obtain ⟨x, hx, rfl⟩ := List.mem_map.1 hv
    rcases fAll_mem hx with ⟨j, hj, ej, hf⟩ | ⟨hm, hk, rfl⟩
    · have hne : ¬ x.1 = -1 := by omega
      unfold mV
      rw [if_neg hne, ej]
      simp only [Int.toNat_natCast]
      have hv := h3 _ (hat j hj)
      have hk := h4 j hj
      rcases fchg_some hf with e | ⟨_, hk', _, e⟩ | ⟨hm, hk', he, e⟩
      · rw [e, ← hk]; exact hv
      · rw [e]; simp only; rw [← hk]; exact hv
      · have hb := (hG (by simpa using hm)).wid hk' _ (fd_mem hj) he
        rw [e]
        simp only
        rw [hk, hb] at hv
        unfold isB at hv ⊢
        simp at hv ⊢
        exact hv.2
    · have ha := (hG (by simpa using hm)).add hk
      simp only [mV, if_true]
      exact ha.2.1
  · have hi' : i < (fAll (nm.1.toList == c.t.1.toList) c fs).length := by simpa [fNew] using hi
    have e1 : vl (vNew nm c fs vs) i = mV c vs ((fAll (nm.1.toList == c.t.1.toList) c fs)[i]) := by simp [vl, vNew, hi']
    have e2 : fd (fNew nm c fs) i = ((fAll (nm.1.toList == c.t.1.toList) c fs)[i]).2 := by simp [fd, fNew, hi']
    rw [e1, e2]
    unfold mV
    split <;> rfl

theorem movE_find (ts : List Ty) (c : Ch) (x : Ev) (t : Ty) (hf : findT ts x.ty.1 = some t) (h0 : refE ts c = 0) (hi : isE ts x = 0) : movE ts c x = ⟨x.ty, x.ts, vNew t.1 c t.2 x.vs⟩ := by
  rw [findT_place] at hf
  unfold movE
  cases hp : placeN (tnames ts) x.ty.1 with
  | none => rw [hp] at hf; simp at hf
  | some k =>
    rw [hp] at hf
    simp only [Option.map_some, Option.some.injEq] at hf
    simp only [h0, hi, and_self, if_true, hf]

theorem findT_mem {ts : List Ty} {nm : ByteArray} {t : Ty} (h : findT ts nm = some t) : t ∈ ts ∧ key t.1 = nm.toList := by
  unfold findT at h
  exact ⟨List.mem_of_find?_eq_some h, (eqT_iff _ _).1 (by simpa using List.find?_some h)⟩

theorem isE_found {ts : List Ty} {x : Ev} (hi : isE ts x = 0) : ∃ t, findT ts x.ty.1 = some t ∧ EvOk t.2 x.ts x.vs := by
  rw [isE_find] at hi
  cases hf : findT ts x.ty.1 with
  | none => rw [hf] at hi; simp [isEf] at hi
  | some t => rw [hf] at hi; exact ⟨t, rfl, isEf_ok.1 hi⟩

/-- The type of the event that is moved, in the new schema. -/
theorem find_moved {ts : List Ty} {c : Ch} {nm : ByteArray} {t : Ty} (h0 : refE ts c = 0) (hf : findT ts nm = some t) : findT (tNew c ts) nm = some (chgT c t) := by
  rw [findT_new, hf]
  · rfl
  · rcases (ref_cases h0).2 with ⟨_, hno, _⟩ | ⟨h5, _⟩
    · obtain ⟨hm, hk⟩ := findT_mem hf
      exact .inr (fun e => hno t hm (by rw [hk, e]))
    · exact .inl h5

theorem good_found {ts : List Ty} {c : Ch} (hS : Sch ts) (h0 : refE ts c = 0) {t : Ty} (ht : t ∈ ts) : key t.1 = key c.t → Good c t.2 := by
  intro e
  rcases (ref_cases h0).2 with ⟨_, hno, _⟩ | ⟨h5, _⟩
  · exact (hno t ht e).elim
  · exact good_all hS h0 h5 t ht e

theorem isE_new {ts : List Ty} {c : Ch} {x : Ev} (hS : Sch ts) (h0 : refE ts c = 0) (hi : isE ts x = 0) : isE (tNew c ts) (movE ts c x) = 0 := by
  obtain ⟨t, hf, hE⟩ := isE_found hi
  rw [movE_find ts c x t hf h0 hi, isE_find]
  simp only
  rw [find_moved h0 hf]
  exact isEf_ok.2 (evOk_new hE (good_found hS h0 (findT_mem hf).1))

end Go.Proofs.YtcjpaldijngnpaaGreatDoor
