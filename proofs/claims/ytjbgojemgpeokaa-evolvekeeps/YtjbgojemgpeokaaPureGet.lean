/-
  What a change isn't about stays, by names, as lists: each field's value in the moved event, and in the event that it was.
-/
import Derived.Test.YtjbgojemgpeokaaPureEv
namespace Go.Proofs.Ytjbgojemgpeokaa
open Go.RowKit Go.Shelf

theorem getE_of {ts : List Ty} {x : Ev} {t : Ty} {f : ByteArray} {k : Nat} (hf : findT ts x.ty.1 = some t) (hp : placeN (fnames t.2) f = some k) (hk : k < x.vs.length) : getE ts x f = some (vl x.vs k) := by
  rw [findT_place] at hf
  unfold getE
  cases hq : placeN (tnames ts) x.ty.1 with
  | none => rw [hq] at hf; simp at hf
  | some q =>
    rw [hq] at hf
    simp only [Option.map_some, Option.some.injEq] at hf
    simp only
    rw [slTo_find, hf, hp]
    simp [hk]

theorem place_of_sch {fs : List Fd} (hF : SchF fs) {j : Nat} (hj : j < fs.length) {nm : ByteArray} (h : key (fd fs j).1 = nm.toList) : placeN (fnames fs) nm = some j := by
  obtain ⟨_, _, h3⟩ := (schF_iff fs).1 hF
  refine placeN_of (by rw [fnames_len]; exact hj) (by rw [← h]; simp [fnames, fd, hj]) fun i hi => ?_
  rw [List.pairwise_iff_getElem] at h3
  have := h3 i j (by omega) hj hi
  simp only [fnames, List.getElem_map]
  rw [← h]
  simpa [fd, hj] using this

/-- Each field of the new type: its value, and the value of the field that it was. -/
theorem keeps_at {ts : List Ty} {c : Ch} {x : Ev} {t : Ty} (hS : Sch ts) (h0 : refE ts c = 0) (hi : isE ts x = 0) (hf : findT ts x.ty.1 = some t) (i : Nat) (hil : i < (fNew t.1 c t.2).length) :
    getE (tNew c ts) (movE ts c x) (fd (fNew t.1 c t.2) i).1.1 = some (vl (vNew t.1 c t.2 x.vs) i) ∧
    (key x.ty ≠ key c.t → ∃ wv, getE ts x (fd (fNew t.1 c t.2) i).1.1 = some wv ∧ (vl (vNew t.1 c t.2 x.vs) i).2 = wv.2) ∧
    (key x.ty = key c.t → (backN c (fd (fNew t.1 c t.2) i).1 = none ∧ vl (vNew t.1 c t.2 x.vs) i = (c.dk, c.dn, c.ds)) ∨ ∃ s wv, backN c (fd (fNew t.1 c t.2) i).1 = some s ∧ getE ts x s.1 = some wv ∧ (vl (vNew t.1 c t.2 x.vs) i).2 = wv.2) := by
  obtain ⟨hm, hk⟩ := findT_mem hf
  obtain ⟨t', hf', hE⟩ := isE_found hi
  rw [hf] at hf'
  cases hf'
  have hG := good_found hS h0 hm
  have hF := (((sch_iff ts).1 hS).2.1 t hm).2
  have hFn := schF_new (nm := t.1) hF hG
  have hlen : (vNew t.1 c t.2 x.vs).length = (fNew t.1 c t.2).length := by simp [vNew, fNew]
  have hmv := movE_find ts c x t hf h0 hi
  have hi' : i < (fAll (t.1.1.toList == c.t.1.toList) c t.2).length := by simpa [fNew] using hil
  obtain ⟨y, hy⟩ : ∃ y, y = (fAll (t.1.1.toList == c.t.1.toList) c t.2)[i] := ⟨_, rfl⟩
  have e1 : vl (vNew t.1 c t.2 x.vs) i = mV c x.vs y := by rw [hy]; simp [vl, vNew, hi']
  have e2 : fd (fNew t.1 c t.2) i = y.2 := by rw [hy]; simp [fd, fNew, hi']
  have hmem : y ∈ fAll (t.1.1.toList == c.t.1.toList) c t.2 := by rw [hy]; exact List.getElem_mem _
  clear hy
  refine ⟨?_, ?_, ?_⟩
  · rw [hmv]
    refine getE_of (t := chgT c t) (by simp only; exact find_moved h0 hf) ?_ (by simp only; omega)
    exact place_of_sch hFn hil rfl
  · intro hne
    have hmine : (t.1.1.toList == c.t.1.toList) = false := by
      have : key t.1 ≠ key c.t := fun e => hne (hk.symm.trans e)
      simpa using this
    rw [hmine] at hmem
    rcases fAll_mem hmem with ⟨j, hj, ej, hfc⟩ | ⟨h, _⟩
    · have hyf : y.2 = fd t.2 j := by simpa [fchg] using hfc.symm
      refine ⟨vl x.vs j, ?_, ?_⟩
      · refine getE_of hf ?_ (by rw [hE.len]; exact hj)
        rw [e2]
        exact place_of_sch hF hj (by rw [hyf])
      · rw [e1]; unfold mV; rw [if_neg (by omega), ej]; simp
    · cases h
  · intro he
    have hkt : key t.1 = key c.t := hk.trans he
    have hmine : (t.1.1.toList == c.t.1.toList) = true := by simpa using hkt
    have hG := hG hkt
    rw [hmine] at hmem
    rw [e1, e2]
    rcases fAll_mem hmem with ⟨j, hj, ej, hfc⟩ | ⟨_, hk1, rfl⟩
    · right
      have hv : (mV c x.vs y).2 = (vl x.vs j).2 := by unfold mV; rw [if_neg (by omega), ej]; simp
      have same : key y.2.1 = key (fd t.2 j).1 → ∃ s wv, backN c y.2.1 = some s ∧ getE ts x s.1 = some wv ∧ (mV c x.vs y).2 = wv.2 := fun hs => by
        refine ⟨y.2.1, vl x.vs j, ?_, getE_of hf (place_of_sch hF hj hs.symm) (by rw [hE.len]; exact hj), hv⟩
        unfold backN
        by_cases h1 : c.k = 1
        · have := (hG.add h1).2.2.1 _ (fd_mem hj)
          have hn : eqT c.f.1 y.2.1 = false := by
            cases hq : eqT c.f.1 y.2.1
            · rfl
            · exact (this (hs.symm.trans ((eqT_iff _ _).1 hq))).elim
          rw [if_pos h1, hn]; rfl
        · rw [if_neg h1]
          by_cases h3 : c.k = 3
          · have := (hG.ren h3).2 _ (fd_mem hj)
            have hn : eqT c.o.1 y.2.1 = false := by
              cases hq : eqT c.o.1 y.2.1
              · rfl
              · exact (this (hs.symm.trans ((eqT_iff _ _).1 hq))).elim
            rw [if_pos h3, hn]; rfl
          · rw [if_neg h3]
      rcases fchg_some hfc with e | ⟨_, h3, hkk, e⟩ | ⟨_, h4, hkk, e⟩
      · exact same (by rw [e])
      · refine ⟨c.f, vl x.vs j, ?_, getE_of hf (place_of_sch hF hj hkk) (by rw [hE.len]; exact hj), hv⟩
        unfold backN
        rw [if_neg (by omega), if_pos h3, e, (eqT_iff _ _).2 rfl]; rfl
      · exact same (by rw [e])
    · left
      refine ⟨?_, by simp [mV]⟩
      unfold backN
      rw [if_pos hk1, (eqT_iff _ _).2 rfl]; rfl

end Go.Proofs.Ytjbgojemgpeokaa
