/-
  A field added and dropped again, renamed and renamed back, as lists: the schema is as it was, and so are events.
-/
import Derived.Test.YtnfmhcddfjgcmaaDoorPureEv
namespace Go.Proofs.YtnfmhcddfjgcmaaDoor
open Go.RowKit Go.Shelf

/-- The values behind a change, place by place. -/
theorem vNew_eq (nm : Txt) (c : Ch) (fs : List Fd) (vs : List Vl) : vNew nm c fs vs = ((List.range fs.length).filterMap fun j => (fchg (key nm == key c.t) c (fd fs j)).map fun g => (g.2, (vl vs j).2)) ++ if (key nm == key c.t) && decide (c.k = 1) then [(c.dk, c.dn, c.ds)] else [] := by
  unfold vNew fAll
  rw [List.map_append]
  congr 1
  · unfold fTo
    rw [List.map_filterMap]
    congr 1
    funext j
    cases fchg (key nm == key c.t) c (fd fs j) with
    | none => rfl
    | some g => simp [mV]
  · split <;> simp [mV]
theorem vs_range (vs : List Vl) : (List.range vs.length).map (vl vs) = vs := by
  refine List.ext_getElem (by simp) fun j h1 h2 => ?_
  simp [vl, h2]
theorem filterMap_all {β : Type} {n : Nat} {f : Nat → Option β} {g : Nat → β} (h : ∀ j, j < n → f j = some (g j)) : (List.range n).filterMap f = (List.range n).map g := by
  induction n with
  | zero => rfl
  | succ n ih =>
    rw [List.range_succ, List.filterMap_append, List.map_append, ih (fun j hj => h j (by omega))]
    simp [h n (by omega)]
/-- Where every field stays, with its kind, the values stay. -/
theorem vNew_keep {nm : Txt} {c : Ch} {fs : List Fd} {tm : Int} {vs : List Vl} (hE : EvOk fs tm vs) (h : ∀ f ∈ fs, ∃ g, fchg (key nm == key c.t) c f = some g ∧ g.2 = f.2) :
    vNew nm c fs vs = vs ++ if (key nm == key c.t) && decide (c.k = 1) then [(c.dk, c.dn, c.ds)] else [] := by
  rw [vNew_eq]
  congr 1
  rw [filterMap_all (g := vl vs), ← hE.len, vs_range]
  intro j hj
  obtain ⟨g, hg, hk⟩ := h _ (fd_mem hj)
  rw [hg, Option.map_some, hk, ← hE.kind j hj]
theorem fchg_not (c : Ch) (f : Fd) : fchg false c f = some f := by simp [fchg]

/-- A change of one field that is there already, turned back. -/
structure Undo (t : Txt) (c d : Ch) (fs : List Fd) : Prop where
  ct : c.t = t
  dt : d.t = t
  ck : c.k ≠ 5
  dk : d.k ≠ 5
  ref : formedB d = true ∧ (d.k ≠ 1 → atE (fNew t c fs) d = 0) ∧ d.k ≠ 1
  back : fNew t d (fNew t c fs) = fs
  vals : ∀ tm vs, EvOk fs tm vs → vNew t d (fNew t c fs) (vNew t c fs vs) = vs

theorem names_new (c : Ch) (ts : List Ty) (h5 : c.k ≠ 5) : tnames (tNew c ts) = tnames ts := by
  rw [tNew_map c ts h5]
  simp [tnames, chgT]

theorem undo_ref {ts : List Ty} {c d : Ch} {j : Nat} (hU : Undo (ty ts j).1 c d (ty ts j).2) (hp : placeN (tnames ts) (ty ts j).1.1 = some j) (hj : j < ts.length) : refE (tNew c ts) d = 0 := by
  unfold refE
  rw [hU.ref.1, names_new c ts hU.ck, hU.dt, hp]
  simp only [if_true]
  rw [if_neg hU.dk, if_neg hU.ref.2.2]
  have e : (ty (tNew c ts) j).2 = fNew (ty ts j).1 c (ty ts j).2 := by
    rw [tNew_map c ts hU.ck]
    simp [ty, hj, chgT]
  rw [e]
  exact hU.ref.2.1 hU.ref.2.2

theorem chgT_other {c : Ch} {t : Ty} (h : key t.1 ≠ key c.t) : chgT c t = t := by
  unfold chgT
  rw [fNew_no t.1 c t.2 (.inl (by simpa using h))]

theorem undo_types {ts : List Ty} {c d : Ch} {j : Nat} (hS : Sch ts) (hU : Undo (ty ts j).1 c d (ty ts j).2) (hj : j < ts.length) : tNew d (tNew c ts) = ts := by
  rw [tNew_map c ts hU.ck, tNew_map d _ hU.dk, List.map_map]
  have hpw := ((sch_iff ts).1 hS).2.2
  conv => rhs; rw [← List.map_id ts]
  refine List.map_congr_left fun u hu => ?_
  simp only [Function.comp, id]
  by_cases hk : key u.1 = key (ty ts j).1
  · have : u = ty ts j := key_uniq hpw hu (ty_mem hj) hk
    rw [this]
    unfold chgT
    simp only
    rw [hU.back]
  · rw [chgT_other (t := u) (by rw [hU.ct]; exact hk), chgT_other (t := u) (by rw [hU.dt]; exact hk)]

theorem undo_event {ts : List Ty} {c d : Ch} {j : Nat} {x : Ev} (hS : Sch ts) (hU : Undo (ty ts j).1 c d (ty ts j).2) (hj : j < ts.length) (h0 : refE ts c = 0) (h1 : refE (tNew c ts) d = 0) (hi : isE ts x = 0) : movE (tNew c ts) d (movE ts c x) = x := by
  obtain ⟨u, hf, hE⟩ := isE_found hi
  have e1 := movE_find ts c x u hf h0 hi
  have hi2 := isE_new hS h0 hi
  have hf2 := find_moved h0 hf
  rw [movE_find (tNew c ts) d (movE ts c x) (chgT c u) (by rw [e1]; exact hf2) h1 hi2, e1]
  simp only
  have : vNew (chgT c u).1 d (chgT c u).2 (vNew u.1 c u.2 x.vs) = x.vs := by
    by_cases hk : key u.1 = key (ty ts j).1
    · have : u = ty ts j := key_uniq ((sch_iff ts).1 hS).2.2 (findT_mem hf).1 (ty_mem hj) hk
      subst this
      exact hU.vals x.ts x.vs hE
    · have hc : (key u.1 == key c.t) = false := by rw [hU.ct]; simpa using hk
      have hd : (key u.1 == key d.t) = false := by rw [hU.dt]; simpa using hk
      rw [chgT_other (t := u) (by rw [hU.ct]; exact hk)]
      have e2 : vNew u.1 c u.2 x.vs = x.vs := by
        rw [vNew_keep hE (fun f _ => ⟨f, by rw [hc]; exact fchg_not c f, rfl⟩), hc]; simp
      rw [e2, vNew_keep hE (fun f _ => ⟨f, by rw [hd]; exact fchg_not d f, rfl⟩), hd]; simp
  rw [this]

/-- The name 'fresh', and the text 'd'. -/
def tFresh : Txt := ⟨⟨#[102, 114, 101, 115, 104]⟩, by unfold maxLen; decide⟩
def tD : Txt := ⟨⟨#[100]⟩, by unfold maxLen; decide⟩
abbrev cAdd (t : Txt) : Ch := ⟨1, t, tFresh, noTxt, 2, 0, tD⟩
abbrev cDrop (t : Txt) : Ch := ⟨2, t, tFresh, noTxt, 0, 0, noTxt⟩
abbrev cRen (t f : Txt) : Ch := ⟨3, t, f, tFresh, 0, 0, noTxt⟩
abbrev cBack (t f : Txt) : Ch := ⟨3, t, tFresh, f, 0, 0, noTxt⟩
theorem name_fresh : nameB tFresh.1 = true := by decide
theorem no_noTxt : noT ⟨#[]⟩ = true := by unfold noT; rw [ByteArray.toList_eq]; rfl
theorem filterMap_same {g : Fd → Option Fd} (l : List Fd) (h : ∀ f ∈ l, g f = some f) : l.filterMap g = l := by
  induction l with
  | nil => rfl
  | cons a l ih => rw [List.filterMap_cons, h a (List.mem_cons_self ..), ih (fun f hf => h f (List.mem_cons_of_mem _ hf))]
theorem isB_d : isB 2 0 tD.1 = true := by decide

theorem undo_add {t : Txt} {fs : List Fd} (hn : nameB t.1 = true) (hG : Good (cAdd t) fs) : Undo t (cAdd t) (cDrop t) fs := by
  have hfr := (hG.add rfl).2.2.1
  have hm : (key t == key t) = true := by simp
  have e1 : fNew t (cAdd t) fs = fs ++ [(tFresh, 2)] := by
    rw [fNew_eq]
    have : fchg (key t == key (cAdd t).t) (cAdd t) = some := by funext f; exact fchg_no _ (cAdd t) (by simp) (by simp) (by simp) f
    rw [this, List.filterMap_some]; simp
  have hkeep : ∀ f ∈ fs, fchg (key t == key (cDrop t).t) (cDrop t) f = some f := fun f hf => by
    unfold fchg
    rw [if_neg (by simp; exact hfr f hf)]
  refine ⟨rfl, rfl, by simp, by simp, ⟨?_, fun _ => ?_, by simp⟩, ?_, fun tm vs hE => ?_⟩
  · simp [formedB, hn, bareB, noD, no_noTxt]
  · rw [e1]
    have : placeN (fnames (fs ++ [(tFresh, 2)])) tFresh.1 = some fs.length := by
      refine placeN_of (by simp [fnames]) (by simp [fnames]) fun i hi => ?_
      have hil : i < fs.length := hi
      simp only [fnames, List.getElem_map, List.getElem_append_left hil]
      exact hfr _ (List.getElem_mem _)
    unfold atE
    simp only
    rw [this]
    simp
  · rw [e1, fNew_eq, List.filterMap_append]
    have h1 : fs.filterMap (fchg (key t == key (cDrop t).t) (cDrop t)) = fs := by
      exact filterMap_same fs hkeep
    rw [h1]
    simp [fchg]
  · have hv : vNew t (cAdd t) fs vs = vs ++ [(2, 0, tD)] := by
      rw [vNew_keep hE (fun f _ => ⟨f, fchg_no _ (cAdd t) (by simp) (by simp) (by simp) f, rfl⟩)]
      simp
    rw [hv, e1, vNew_eq]
    have hlen := hE.len
    rw [List.length_append, List.length_singleton, List.range_succ, List.filterMap_append]
    have hlast : fchg (key t == key (cDrop t).t) (cDrop t) (fd (fs ++ [(tFresh, 2)]) fs.length) = none := by
      have : fd (fs ++ [(tFresh, 2)]) fs.length = (tFresh, 2) := by simp [fd]
      rw [this]
      simp [fchg]
    rw [filterMap_all (g := vl vs)]
    · simp only [List.filterMap_cons, List.filterMap_nil, hlast, Option.map_none]
      rw [← hlen, vs_range]
      simp
    · intro i hi
      have ef : fd (fs ++ [(tFresh, 2)]) i = fd fs i := by simp [fd, List.getElem?_append_left hi]
      have ev : vl (vs ++ [(2, 0, tD)]) i = vl vs i := by simp [vl, List.getElem?_append_left (show i < vs.length by omega)]
      rw [ef, ev, hkeep _ (fd_mem hi), Option.map_some, ← hE.kind i hi]

theorem undo_ren {t f0 : Txt} {fs : List Fd} (hn : nameB t.1 = true) (hF : SchF fs) (hG : Good (cRen t f0) fs) (h0 : ∃ f ∈ fs, f.1 = f0) : Undo t (cRen t f0) (cBack t f0) fs := by
  have hfr := (hG.ren rfl).2
  simp only at hfr
  have hm : (key t == key t) = true := by simp
  have hc : ∀ f : Fd, fchg (key t == key (cRen t f0).t) (cRen t f0) f = some (if key f.1 = key f0 then (tFresh, f.2) else f) := fun f => by
    unfold fchg
    by_cases h : key f.1 = key f0
    · rw [if_pos (by simp; exact h), if_pos h]; simp
    · rw [if_neg (by simp; exact h), if_neg h]
  have hd : ∀ f : Fd, fchg (key t == key (cBack t f0).t) (cBack t f0) f = some (if key f.1 = key tFresh then (f0, f.2) else f) := fun f => by
    unfold fchg
    by_cases h : key f.1 = key tFresh
    · rw [if_pos (by simp; exact h), if_pos h]; simp
    · rw [if_neg (by simp; exact h), if_neg h]
  have e1 : fNew t (cRen t f0) fs = fs.map fun f => if key f.1 = key f0 then (tFresh, f.2) else f := by
    rw [fNew_eq, show fchg (key t == key (cRen t f0).t) (cRen t f0) = fun f => some (if key f.1 = key f0 then (tFresh, f.2) else f) from funext hc]
    simp
  obtain ⟨f1, hf1, hf1e⟩ := h0
  have hf0n : nameB f0.1 = true := by rw [← hf1e]; exact (((schF_iff fs).1 hF).2.1 f1 hf1).1
  have hne : key f0 ≠ key tFresh := by rw [← hf1e]; exact hfr f1 hf1
  refine ⟨rfl, rfl, by simp, by simp, ⟨?_, fun _ => ?_, by simp⟩, ?_, fun tm vs hE => ?_⟩
  · simp [formedB, hn, bareB, noD, no_noTxt]
  · rw [e1]
    have hth : ∃ p, placeN (fnames (fs.map fun f => if key f.1 = key f0 then (tFresh, f.2) else f)) tFresh.1 = some p := by
      cases hp : placeN (fnames (fs.map fun f => if key f.1 = key f0 then (tFresh, f.2) else f)) tFresh.1 with
      | some p => exact ⟨p, rfl⟩
      | none =>
        have := placeN_none.1 hp tFresh (by
          simp only [fnames, List.map_map, List.mem_map]
          exact ⟨f1, hf1, by simp [hf1e]⟩)
        exact (this rfl).elim
    obtain ⟨p, hp⟩ := hth
    have hno : hasB (fs.map fun f => if key f.1 = key f0 then (tFresh, f.2) else f) f0.1 = false := by
      rw [hasB_iff]
      intro g hg
      obtain ⟨f, hf, rfl⟩ := List.mem_map.1 hg
      by_cases h : key f.1 = key f0
      · rw [if_pos h]; exact fun e => hne e.symm
      · rw [if_neg h]; exact h
    unfold atE
    simp only
    rw [hp]
    simp [hf0n, hno]
  · rw [e1, fNew_eq, show fchg (key t == key (cBack t f0).t) (cBack t f0) = fun f => some (if key f.1 = key tFresh then (f0, f.2) else f) from funext hd]
    simp only [List.filterMap_eq_map']
    rw [List.map_map]
    have : fs.map ((fun f : Fd => if key f.1 = key tFresh then (f0, f.2) else f) ∘ fun f => if key f.1 = key f0 then (tFresh, f.2) else f) = fs := by
      conv => rhs; rw [← List.map_id fs]
      refine List.map_congr_left fun f hf => ?_
      simp only [Function.comp, id]
      by_cases h : key f.1 = key f0
      · rw [if_pos h, if_pos rfl]
        have : f.1 = f0 := txt_ext h
        rw [← this]
      · rw [if_neg h, if_neg (hfr f hf)]
    rw [this]
    simp
  · have hv : vNew t (cRen t f0) fs vs = vs := by
      rw [vNew_keep hE (fun f _ => ⟨_, hc f, by split <;> rfl⟩)]
      simp
    have hE2 : EvOk (fNew t (cRen t f0) fs) tm vs := by
      refine ⟨hE.tm, by rw [hE.len, e1]; simp, hE.val, fun i hi => ?_⟩
      have hi' : i < fs.length := by rw [e1] at hi; simpa using hi
      rw [hE.kind i hi', e1]
      have : fd (fs.map fun f => if key f.1 = key f0 then (tFresh, f.2) else f) i = if key (fd fs i).1 = key f0 then (tFresh, (fd fs i).2) else fd fs i := by simp [fd, hi']
      rw [this]
      split <;> rfl
    rw [hv, vNew_keep hE2 (fun f _ => ⟨_, hd f, by split <;> rfl⟩)]
    simp

theorem place_self {ts : List Ty} (hS : Sch ts) {j : Nat} (hj : j < ts.length) : placeN (tnames ts) (ty ts j).1.1 = some j := by
  have hpw := ((sch_iff ts).1 hS).2.2
  refine placeN_of (by rw [tnames_len]; exact hj) (by simp [tnames, ty, hj]) fun i hi => ?_
  rw [List.pairwise_iff_getElem] at hpw
  have := hpw i j (by omega) hj hi
  simp only [tnames, List.getElem_map]
  intro e
  rw [show key ts[i].1 = key ts[j].1 by rw [show key ts[i].1 = _ from e]; simp [ty, hj]] at this
  exact List.lt_irrefl _ this

/-- What the two changes of EvolveRound come to. -/
theorem round_add {ts : List Ty} (hS : Sch ts) {j : Nat} (hj : j < ts.length) :
    (refE ts (cAdd (ty ts j).1) ≠ 0 → hasB (ty ts j).2 tFresh.1 = true ∨ (ty ts j).2.length = 5) ∧
    (refE ts (cAdd (ty ts j).1) = 0 → Undo (ty ts j).1 (cAdd (ty ts j).1) (cDrop (ty ts j).1) (ty ts j).2) := by
  have hp := place_self hS hj
  obtain ⟨hn, hF⟩ := ((sch_iff ts).1 hS).2.1 _ (ty_mem hj)
  refine ⟨fun h => ?_, fun h => undo_add hn (good_of hS h hp).2⟩
  cases hH : hasB (ty ts j).2 tFresh.1
  · right
    apply Decidable.byContradiction
    intro hl
    apply h
    have hfo : formedB (cAdd (ty ts j).1) = true := by simp [formedB, hn, bareB, no_noTxt]
    unfold refE
    rw [hfo]
    simp only [if_true]
    rw [hp]
    simp only
    have hl5 : ¬ 5 ≤ (ty ts j).2.length := by have := hF.1; omega
    simp [addE, name_fresh, isB_d, hH, hl5]
  · exact .inl rfl
theorem round_ren {ts : List Ty} (hS : Sch ts) {j : Nat} (hj : j < ts.length) (h0 : 0 < (ty ts j).2.length) :
    (refE ts (cRen (ty ts j).1 (fd (ty ts j).2 0).1) ≠ 0 → hasB (ty ts j).2 tFresh.1 = true) ∧
    (refE ts (cRen (ty ts j).1 (fd (ty ts j).2 0).1) = 0 → Undo (ty ts j).1 (cRen (ty ts j).1 (fd (ty ts j).2 0).1) (cBack (ty ts j).1 (fd (ty ts j).2 0).1) (ty ts j).2) := by
  have hp := place_self hS hj
  obtain ⟨hn, hF⟩ := ((sch_iff ts).1 hS).2.1 _ (ty_mem hj)
  refine ⟨fun h => ?_, fun h => undo_ren hn hF (good_of hS h hp).2 ⟨_, fd_mem h0, rfl⟩⟩
  cases hH : hasB (ty ts j).2 tFresh.1
  · exfalso
    apply h
    have hfo : formedB (cRen (ty ts j).1 (fd (ty ts j).2 0).1) = true := by simp [formedB, hn, bareB, noD, no_noTxt]
    unfold refE
    rw [hfo]
    simp only [if_true]
    rw [hp]
    have h1 : placeN (fnames (ty ts j).2) (fd (ty ts j).2 0).1.1 = some 0 := by
      have := (hF.2 0 h0).2.2.2
      unfold placeI at this
      cases hq : placeN (fnames (ty ts j).2) (fd (ty ts j).2 0).1.1 with
      | none => rw [hq] at this; simp at this
      | some q => rw [hq] at this; simp only at this; congr 1; omega
    simp [atE, h1, name_fresh, hH]
  · rfl

end Go.Proofs.YtnfmhcddfjgcmaaDoor
