/-
  An event of a schema that may be, moved behind a change that may be, as lists: it is an event of the new schema; its values, by their names.
-/
import Derived.Test.YtcjpaldijngnpaaGreatPure
namespace Go.Proofs.YtcjpaldijngnpaaGreat
open Go.RowKit Go.Shelf

/-- The type of that name. -/
def findT (ts : List Ty) (nm : ByteArray) : Option Ty := ts.find? fun t => eqT nm t.1
theorem findT_place (ts : List Ty) (nm : ByteArray) : findT ts nm = (placeN (tnames ts) nm).map (ty ts) := by
  unfold findT
  cases hp : placeN (tnames ts) nm with
  | none =>
    rw [Option.map_none, List.find?_eq_none]
    intro t ht
    have := placeN_none.1 hp t.1 (List.mem_map_of_mem ht)
    intro e
    exact this ((eqT_iff _ _).1 e)
  | some k =>
    obtain ⟨hkl, hk⟩ := place_key hp
    obtain ⟨hl, _, h2⟩ := placeN_some hp
    rw [Option.map_some, List.find?_eq_some_iff_getElem]
    refine ⟨(eqT_iff _ _).2 hk, k, hkl, by simp [ty, hkl], fun j hj => ?_⟩
    have := h2 j hj
    simp only [tnames, List.getElem_map] at this
    cases he : eqT nm ts[j].1
    · rfl
    · exact (this ((eqT_iff _ _).1 he)).elim
theorem findT_new {ts : List Ty} {c : Ch} {nm : ByteArray} (h : c.k ≠ 5 ∨ key c.t ≠ nm.toList) : findT (tNew c ts) nm = (findT ts nm).map (chgT c) := by
  by_cases h5 : c.k = 5
  · have hne : key c.t ≠ nm.toList := by rcases h with h | h; exact (h h5).elim; exact h
    obtain ⟨m, hm, e, _, _⟩ := tNew_ins c ts h5
    have hid : chgT c = id := by funext t; exact chgT_no c t (by omega)
    have hno : eqT nm c.t = false := by
      cases he : eqT nm c.t
      · rfl
      · exact (hne ((eqT_iff _ _).1 he)).elim
    rw [e, hid, Option.map_id, id]
    unfold findT
    conv => rhs; rw [← List.take_append_drop m ts]
    rw [List.find?_append, List.find?_append, List.find?_append]
    simp [hno]
  · rw [tNew_map c ts h5]
    unfold findT
    rw [List.find?_map]
    rfl

/-- event's Is by the type that is found. -/
def isEf (o : Option Ty) (x : Ev) : Int :=
  match o with
  | none => 13
  | some t => if wholeB t.2.length x.ts x.vs then (if kindsB (slTo t.2 x.vs (min t.2.length x.vs.length)) then 0 else 14) else 10
theorem isE_find (ts : List Ty) (x : Ev) : isE ts x = isEf (findT ts x.ty.1) x := by
  unfold isE isEf
  rw [findT_place]
  cases placeN (tnames ts) x.ty.1 <;> rfl
/-- That nothing is wrong with an event, said of its type's fields. -/
structure EvOk (fs : List Fd) (tm : Int) (vs : List Vl) : Prop where
  tm : 0 ≤ tm ∧ tm ≤ 1073741824
  len : vs.length = fs.length
  val : ∀ v ∈ vs, isB v.1 v.2.1 v.2.2.1 = true
  kind : ∀ i, i < fs.length → (vl vs i).1 = (fd fs i).2
theorem isEf_ok {t : Ty} {x : Ev} : isEf (some t) x = 0 ↔ EvOk t.2 x.ts x.vs := by
  unfold isEf
  simp only
  constructor
  · intro h
    cases hw : wholeB t.2.length x.ts x.vs
    · rw [hw] at h; simp at h
    rw [hw] at h
    simp only [if_true] at h
    cases hk : kindsB (slTo t.2 x.vs (min t.2.length x.vs.length))
    · rw [hk] at h; simp at h
    unfold wholeB at hw
    simp only [Bool.and_eq_true, decide_eq_true_eq, Bool.not_eq_true'] at hw
    refine ⟨hw.1.1, hw.1.2, fun v hv => ?_, fun i hi => ?_⟩
    · have := hw.2
      unfold anyNo at this
      rw [List.any_eq_false] at this
      have := this v hv
      simpa [noV] using this
    · unfold kindsB slTo at hk
      rw [List.all_eq_true] at hk
      have := hk (fd t.2 i, vl x.vs i) (List.mem_map.2 ⟨i, by rw [List.mem_range]; have := hw.1.2; omega, rfl⟩)
      simpa using this
  · rintro ⟨h1, h2, h3, h4⟩
    have hw : wholeB t.2.length x.ts x.vs = true := by
      unfold wholeB
      simp only [Bool.and_eq_true, decide_eq_true_eq, Bool.not_eq_true']
      refine ⟨⟨h1, h2⟩, ?_⟩
      unfold anyNo
      rw [List.any_eq_false]
      intro v hv
      simp [noV, h3 v hv]
    have hk : kindsB (slTo t.2 x.vs (min t.2.length x.vs.length)) = true := by
      unfold kindsB slTo
      rw [List.all_eq_true]
      intro y hy
      obtain ⟨i, hi, rfl⟩ := List.mem_map.1 hy
      rw [List.mem_range] at hi
      simpa using h4 i (by omega)
    rw [hw, hk]; rfl

/-- What the walk over fields gives, each. -/
theorem fAll_mem {mine : Bool} {c : Ch} {fs : List Fd} {x : Pf} (h : x ∈ fAll mine c fs) : (∃ j, j < fs.length ∧ x.1 = (j : Int) ∧ fchg mine c (fd fs j) = some x.2) ∨ (mine = true ∧ c.k = 1 ∧ x = (-1, (c.f, c.dk))) := by
  unfold fAll at h
  rcases List.mem_append.1 h with h | h
  · unfold fTo at h
    obtain ⟨j, hj, e⟩ := List.mem_filterMap.1 h
    rw [List.mem_range] at hj
    cases hf : fchg mine c (fd fs j) with
    | none => rw [hf] at e; simp at e
    | some g =>
      rw [hf] at e
      simp only [Option.map_some, Option.some.injEq] at e
      subst e
      exact .inl ⟨j, hj, rfl, hf⟩
  · split at h
    · rename_i hc
      simp only [List.mem_singleton] at h
      rw [Bool.and_eq_true, decide_eq_true_eq] at hc
      exact .inr ⟨hc.1, hc.2, h⟩
    · simp at h

/-- An event's values, moved, suit the new fields. -/
theorem evOk_new {nm : Txt} {c : Ch} {fs : List Fd} {tm : Int} {vs : List Vl} (hE : EvOk fs tm vs) (hG : key nm = key c.t → Good c fs) : EvOk (fNew nm c fs) tm (vNew nm c fs vs) := by
  obtain ⟨h1, h2, h3, h4⟩ := hE
  have hat : ∀ j, j < fs.length → vl vs j ∈ vs := fun j hj => by simp [vl, show j < vs.length by omega]
  refine ⟨h1, by simp [vNew, fNew], fun v hv => ?_, fun i hi => ?_⟩
  · unfold vNew at hv
    obtain ⟨x, hx, rfl⟩ := List.mem_map.1 hv
    rcases fAll_mem hx with ⟨j, hj, ej, hf⟩ | ⟨hm, hk, rfl⟩
    · have hne : ¬ x.1 = -1 := by omega
      unfold mV
      rw [if_neg hne, ej]
      simp only [Int.toNat_natCast]
      have hv := h3 _ (hat j hj)
      have hk := h4 j hj
      rcases fchg_some hf with e | ⟨_, hk', _, e⟩ | ⟨hm, hk', he, e⟩
      · rw [e, ← hk]; exact hv
      · rw [e]; simp only; rw [← hk]; exact hv
      · have hb := (hG (by simpa using hm)).wid hk' _ (fd_mem hj) he
        rw [e]
        simp only
        rw [hk, hb] at hv
        unfold isB at hv ⊢
        simp at hv ⊢
        exact hv.2
    · have ha := (hG (by simpa using hm)).add hk
      simp only [mV, if_true]
      exact ha.2.1
  · have hi' : i < (fAll (nm.1.toList == c.t.1.toList) c fs).length := by simpa [fNew] using hi
    have e1 : vl (vNew nm c fs vs) i = mV c vs ((fAll (nm.1.toList == c.t.1.toList) c fs)[i]) := by simp [vl, vNew, hi']
    have e2 : fd (fNew nm c fs) i = ((fAll (nm.1.toList == c.t.1.toList) c fs)[i]).2 := by simp [fd, fNew, hi']
    rw [e1, e2]
    unfold mV
    split <;> rfl

theorem movE_find (ts : List Ty) (c : Ch) (x : Ev) (t : Ty) (hf : findT ts x.ty.1 = some t) (h0 : refE ts c = 0) (hi : isE ts x = 0) : movE ts c x = ⟨x.ty, x.ts, vNew t.1 c t.2 x.vs⟩ := by
  rw [findT_place] at hf
  unfold movE
  cases hp : placeN (tnames ts) x.ty.1 with
  | none => rw [hp] at hf; simp at hf
  | some k =>
    rw [hp] at hf
    simp only [Option.map_some, Option.some.injEq] at hf
    simp only [h0, hi, and_self, if_true, hf]

theorem findT_mem {ts : List Ty} {nm : ByteArray} {t : Ty} (h : findT ts nm = some t) : t ∈ ts ∧ key t.1 = nm.toList := by
  unfold findT at h
  exact ⟨List.mem_of_find?_eq_some h, (eqT_iff _ _).1 (by simpa using List.find?_some h)⟩

theorem isE_found {ts : List Ty} {x : Ev} (hi : isE ts x = 0) : ∃ t, findT ts x.ty.1 = some t ∧ EvOk t.2 x.ts x.vs := by
  rw [isE_find] at hi
  cases hf : findT ts x.ty.1 with
  | none => rw [hf] at hi; simp [isEf] at hi
  | some t => rw [hf] at hi; exact ⟨t, rfl, isEf_ok.1 hi⟩

/-- The type of the event that is moved, in the new schema. -/
theorem find_moved {ts : List Ty} {c : Ch} {nm : ByteArray} {t : Ty} (h0 : refE ts c = 0) (hf : findT ts nm = some t) : findT (tNew c ts) nm = some (chgT c t) := by
  rw [findT_new, hf]
  · rfl
  · rcases (ref_cases h0).2 with ⟨_, hno, _⟩ | ⟨h5, _⟩
    · obtain ⟨hm, hk⟩ := findT_mem hf
      exact .inr (fun e => hno t hm (by rw [hk, e]))
    · exact .inl h5

theorem good_found {ts : List Ty} {c : Ch} (hS : Sch ts) (h0 : refE ts c = 0) {t : Ty} (ht : t ∈ ts) : key t.1 = key c.t → Good c t.2 := by
  intro e
  rcases (ref_cases h0).2 with ⟨_, hno, _⟩ | ⟨h5, _⟩
  · exact (hno t ht e).elim
  · exact good_all hS h0 h5 t ht e

theorem isE_new {ts : List Ty} {c : Ch} {x : Ev} (hS : Sch ts) (h0 : refE ts c = 0) (hi : isE ts x = 0) : isE (tNew c ts) (movE ts c x) = 0 := by
  obtain ⟨t, hf, hE⟩ := isE_found hi
  rw [movE_find ts c x t hf h0 hi, isE_find]
  simp only
  rw [find_moved h0 hf]
  exact isEf_ok.2 (evOk_new hE (good_found hS h0 (findT_mem hf).1))

end Go.Proofs.YtcjpaldijngnpaaGreat
