/-
  A cell stored into a row that a call owns; a type of a schema that was copied, changed in its place.
  A schema behind a change of one of its types, as that type in its place: what stands in the list of its fields; and what a store of it into a copied schema leaves in memory.
  A schema that was copied, in memory: its types in a row, each type's fields in a row of its own, apart from the others; one type changed in its place.
  What becomes of an event's values behind a change, by the change's kind, as lists; and rows of values in memory, cut and changed.
-/
import Derived.Test.YtnfmhcddfjgcmaaDoorApply
import Derived.Test.YtnfmhcddfjgcmaaDoorPureRound
import Derived.Test.YtnfmhcddfjgcmaaDoorRefCopied
namespace Go.Proofs.YtnfmhcddfjgcmaaDoor
open Go.RowKit Go.Shelf

/-- One cell more in its place. -/
theorem owns_put {W : World} {base g c : Nat} {e : TypeId} {size n : Nat} {xs : List Value} (h : W.ownsRow base e size (.slice (some ⟨g, 0, none⟩) n c) n xs) (i : Nat) (hi : i < n * size) (u : Value) :
    (W.setCell ⟨g, i, none⟩ u).ownsRow base e size (.slice (some ⟨g, 0, none⟩) n c) n (xs.set i u) := by
  obtain ⟨hl, h2⟩ := h
  rcases h2 with ⟨e', _⟩ | ⟨g', c', cur, e', hb, hg, hnc, hcm, hcs, ht⟩
  · cases e'
  · simp only [Value.slice.injEq, Option.some.injEq, Addr.mk.injEq, true_and, and_true] at e'
    obtain ⟨rfl, rfl⟩ := e'
    have hbx : Box W g e cur := hg
    have hic : i < cur.size := by rw [hcs]; have : n * size ≤ c * size := Nat.mul_le_mul_right _ hnc; omega
    refine ⟨by rw [List.length_set]; exact hl, .inr ⟨g, c, _, rfl, hb, hbx.set i u, hnc, hcm, by simpa using hcs, ?_⟩⟩
    rw [Array.toList_setIfInBounds, ← ht, List.take_set]

theorem newsF_set (fs : List Fd) (p : Nat) (hp : p < fs.length) (f : Fd) : newsF (fs.set p f) = ((newsF fs).set (p * 2) (.string f.1.1)).set (p * 2 + 1) (.int .i64 f.2) := by
  induction fs generalizing p with
  | nil => simp at hp
  | cons a l ih =>
    cases p with
    | zero => simp [newsF]
    | succ p =>
      have := ih p (by simpa using hp)
      simp only [newsF, List.set_cons_succ, List.flatMap_cons, List.cons_append, List.nil_append] at this ⊢
      rw [this, show (p + 1) * 2 = p * 2 + 1 + 1 by omega, show p * 2 + 1 + 1 + 1 = p * 2 + 1 + 1 + 1 by rfl]
      simp
theorem newsT_set (xs : List Tw) (p : Nat) (hp : p < xs.length) (x : Tw) : newsT (xs.set p x) = ((newsT xs).set (p * 2) (.string x.1.1.1)).set (p * 2 + 1) (.slice x.2.1 x.1.2.length x.2.2) := by
  induction xs generalizing p with
  | nil => simp at hp
  | cons a l ih =>
    cases p with
    | zero => simp [newsT]
    | succ p =>
      have := ih p (by simpa using hp)
      simp only [newsT, List.set_cons_succ, List.flatMap_cons, List.cons_append, List.nil_append] at this ⊢
      rw [this, show (p + 1) * 2 = p * 2 + 1 + 1 by omega]
      simp

end Go.Proofs.YtnfmhcddfjgcmaaDoor

namespace Go.Proofs.YtnfmhcddfjgcmaaDoor
open Go.RowKit Go.Shelf

theorem filterMap_one {g : Fd → Option Fd} (fs : List Fd) (p : Nat) (hp : p < fs.length) (h : ∀ i (hi : i < fs.length), i ≠ p → g fs[i] = some fs[i]) : fs.filterMap g = fs.take p ++ (g fs[p]).toList ++ fs.drop (p + 1) := by
  induction fs generalizing p with
  | nil => simp at hp
  | cons a l ih =>
    cases p with
    | zero =>
      have e : l.filterMap g = l := filterMap_same l fun f hf => by
        obtain ⟨i, hi, rfl⟩ := List.getElem_of_mem hf
        have := h (i + 1) (by simpa using hi) (by omega)
        simpa using this
      simp only [List.take_zero, List.nil_append, List.getElem_cons_zero, List.drop_succ_cons, List.drop_zero]
      cases hg : g a <;> simp [hg, e]
    | succ p =>
      have h0 := h 0 (by simp) (by omega)
      simp only [List.getElem_cons_zero] at h0
      rw [List.filterMap_cons, h0]
      have := ih p (by simpa using hp) (fun i hi hne => by have := h (i + 1) (by simpa using hi) (by omega); simpa using this)
      simp [this]

/-- The field of that name alone is met. -/
theorem fchg_other {fs : List Fd} {c : Ch} {p : Nat} (hF : SchF fs) (hp : placeN (fnames fs) c.f.1 = some p) (mine : Bool) : ∀ i (hi : i < fs.length), i ≠ p → fchg mine c fs[i] = some fs[i] := by
  intro i hi hne
  obtain ⟨hk, hkey, -⟩ := placeN_some hp
  have hkl : p < fs.length := by simpa [fnames] using hk
  have hpw := ((schF_iff fs).1 hF).2.2
  rw [List.pairwise_iff_getElem] at hpw
  have e : (fs[i].1.1.toList == c.f.1.toList) = false := by
    simp only [beq_eq_false_iff_ne, ne_eq]
    intro e
    have hkey' : key fs[p].1 = c.f.1.toList := by simpa [fnames] using hkey
    rcases Nat.lt_or_gt_of_ne hne with h | h
    · exact hpw i p hi hkl h (e.trans hkey'.symm)
    · exact hpw p i hkl hi h (hkey'.trans e.symm)
  simp [fchg, e]

theorem place_lt {fs : List Fd} {nm : ByteArray} {p : Nat} (hp : placeN (fnames fs) nm = some p) : ∃ h : p < fs.length, (fs[p].1.1.toList == nm.toList) = true := by
  obtain ⟨hk, hkey, -⟩ := placeN_some hp
  have hkl : p < fs.length := by simpa [fnames] using hk
  exact ⟨hkl, by simpa [fnames, key] using hkey⟩

theorem fNew_one {nm : Txt} {c : Ch} {fs : List Fd} (hn : key nm = key c.t) (h1 : c.k = 1) : fNew nm c fs = fs ++ [(c.f, c.dk)] := by
  rw [fNew_eq, filterMap_same fs fun f _ => fchg_no _ c (by omega) (by omega) (by omega) f]
  simp [hn, h1]

theorem fNew_at {nm : Txt} {c : Ch} {fs : List Fd} {p : Nat} (hF : SchF fs) (hp : placeN (fnames fs) c.f.1 = some p) (h1 : c.k ≠ 1) : fNew nm c fs = fs.take p ++ (fchg (key nm == key c.t) c (fd fs p)).toList ++ fs.drop (p + 1) := by
  obtain ⟨hl, -⟩ := place_lt hp
  rw [fNew_eq, filterMap_one fs p hl (fchg_other hF hp _)]
  simp [h1, fd, hl]
theorem fNew_two {nm : Txt} {c : Ch} {fs : List Fd} {p : Nat} (hF : SchF fs) (hp : placeN (fnames fs) c.f.1 = some p) (hn : key nm = key c.t) (h2 : c.k = 2) : fNew nm c fs = fs.take p ++ fs.drop (p + 1) := by
  obtain ⟨hl, he⟩ := place_lt hp
  rw [fNew_at hF hp (by omega)]
  simp [fchg, hn, fd, hl, he, h2]
theorem set_split {α : Type} (l : List α) (p : Nat) (hp : p < l.length) (x : α) : l.take p ++ [x] ++ l.drop (p + 1) = l.set p x := by
  rw [List.set_eq_take_append_cons_drop, if_pos hp]; simp
theorem fNew_three {nm : Txt} {c : Ch} {fs : List Fd} {p : Nat} (hF : SchF fs) (hp : placeN (fnames fs) c.f.1 = some p) (hn : key nm = key c.t) (h3 : c.k = 3) : fNew nm c fs = fs.set p (c.o, (fd fs p).2) := by
  obtain ⟨hl, he⟩ := place_lt hp
  rw [fNew_at hF hp (by omega), ← set_split fs p hl]
  simp [fchg, hn, fd, hl, he, h3]
theorem fNew_four {nm : Txt} {c : Ch} {fs : List Fd} {p : Nat} (hF : SchF fs) (hp : placeN (fnames fs) c.f.1 = some p) (hn : key nm = key c.t) (h4 : c.k = 4) : fNew nm c fs = fs.set p ((fd fs p).1, 1) := by
  obtain ⟨hl, he⟩ := place_lt hp
  rw [fNew_at hF hp (by omega), ← set_split fs p hl]
  simp [fchg, hn, fd, hl, he, h4]

theorem app_set {ts : List Ty} {c : Ch} {j : Nat} (hS : Sch ts) (h0 : refE ts c = 0) (h5 : c.k ≠ 5) (hp : placeN (tnames ts) c.t.1 = some j) : appT ts c = ts.set j ((ty ts j).1, fNew (ty ts j).1 c (ty ts j).2) := by
  obtain ⟨hj, hk⟩ := place_key hp
  have hpw := ((sch_iff ts).1 hS).2.2
  rw [List.pairwise_iff_getElem] at hpw
  rw [appT, if_pos h0, tNew_map c ts h5]
  apply List.ext_getElem (by simp)
  intro i h1 h2
  simp only [List.length_map] at h1
  rw [List.getElem_map, List.getElem_set]
  by_cases e : j = i
  · subst e
    simp [chgT, ty, h1]
  · rw [if_neg e]
    refine chgT_other fun e' => ?_
    have hk' : key ts[j].1 = key c.t := by simpa [ty, hj] using hk
    rcases Nat.lt_or_gt_of_ne e with h | h
    · exact List.lt_irrefl _ (by have := hpw j i hj h1 h; rwa [hk', e'] at this)
    · exact List.lt_irrefl _ (by have := hpw i j h1 hj h; rwa [hk', e'] at this)

/-- Other rows lie as they lay. -/
theorem set_other {W : World} {base : Nat} {e e' : TypeId} {size : Nat} {v : Value} {n : Nat} {xs : List Value} (h : W.ownsRow base e size v n xs) {g i : Nat} {cs : Array Value} (hg : W.heap[g]? = some (.cells cs e' (0, 0))) (hne : e ≠ e') (u : Value) : (W.setCell ⟨g, i, none⟩ u).ownsRow base e size v n xs :=
  owns_keep h fun q hq _ => setCell_block _ _ _ fun eq => by
    simp only at eq
    obtain ⟨_, cur, h1⟩ := owns_lt h hq
    rw [← eq, hg] at h1
    cases h1
    exact hne rfl

/-- A type stored into a copied schema; the schema handed back. -/
theorem typs_put {W : World} {base b cv n j S : Nat} {xs : List Tw} {y : Tw} (hn : xs.length = n) (hj : j < n) (O : W.ownsRow base 51 2 (.slice (some ⟨b, 0, none⟩) n cv) n (newsT xs))
    (own : ∀ i (h : i < xs.length), i ≠ j → Tw.own base W xs[i]) (own' : Tw.own base W y) (h6 : ∀ x ∈ xs.set j y, x.1.2.length ≤ maxLen) (hS : S < base) (v : Value) :
    Typs (((W.setCell ⟨b, j * 2, none⟩ (.string y.1.1.1)).setCell ⟨b, j * 2 + 1, none⟩ (.slice y.2.1 y.1.2.length y.2.2)).setCell ⟨S, 0, none⟩ v).heap.size (((W.setCell ⟨b, j * 2, none⟩ (.string y.1.1.1)).setCell ⟨b, j * 2 + 1, none⟩ (.slice y.2.1 y.1.2.length y.2.2)).setCell ⟨S, 0, none⟩ v) (some ⟨b, 0, none⟩) ((xs.set j y).map (·.1)) := by
  subst hn
  have O2 := owns_put (owns_put O (j * 2) (by omega) (.string y.1.1.1)) (j * 2 + 1) (by omega) (.slice y.2.1 y.1.2.length y.2.2)
  rw [← newsT_set xs j hj y] at O2
  obtain ⟨_, cur, hg⟩ := owns_lt O (g := b) rfl
  have hg2 := (show Box W b 51 cur from hg).set (j * 2) (.string y.1.1.1)
  have o2 : ∀ {x : Tw}, Tw.own base W x → Tw.own base ((W.setCell ⟨b, j * 2, none⟩ (.string y.1.1.1)).setCell ⟨b, j * 2 + 1, none⟩ (.slice y.2.1 y.1.2.length y.2.2)) x := fun h => set_other (set_other h hg (by decide) _) hg2 (by decide) _
  have O3 := owns_set O2 ⟨S, 0, none⟩ v hS
  obtain ⟨a', c', e, hT⟩ := typs_of_owns (xs := xs.set j y) (base' := base) (by rw [List.length_set]; exact O3) (fun x hx => by
    refine owns_set (p := ⟨S, 0, none⟩) (u := v) (hp := hS) (o2 ?_)
    obtain ⟨i, hi, rfl⟩ := List.getElem_of_mem hx
    rw [List.length_set] at hi
    rw [List.getElem_set]
    split
    · exact own'
    · exact own i hi (by omega)) h6
  simp only [Value.slice.injEq] at e
  obtain ⟨rfl, -, -⟩ := e
  exact hT

end Go.Proofs.YtnfmhcddfjgcmaaDoor

namespace Go.Proofs.YtnfmhcddfjgcmaaDoor
open Go.RowKit Go.Shelf

structure Cp (base : Nat) (W : World) (b cv : Nat) (ts : List Ty) (xs : List Tw) : Prop where
  map : xs.map (·.1) = ts
  row : W.ownsRow base 51 2 (.slice (some ⟨b, 0, none⟩) ts.length cv) ts.length (newsT xs)
  own : ∀ x ∈ xs, Tw.own base W x
  apart : xs.Pairwise Apart

theorem Cp.len {base : Nat} {W : World} {b cv : Nat} {ts : List Ty} {xs : List Tw} (h : Cp base W b cv ts xs) : xs.length = ts.length := by rw [← h.map, List.length_map]
theorem Cp.on {base : Nat} {W W' : World} {b cv : Nat} {ts : List Ty} {xs : List Tw} (h : Cp base W b cv ts xs) (hb : Below W.heap.size W W') : Cp base W' b cv ts xs :=
  ⟨h.map, owns_below h.row hb, fun x hx => owns_below (h.own x hx) hb, h.apart⟩
/-- One type of it, where it lies. -/
theorem Cp.at {base : Nat} {W : World} {b cv : Nat} {ts : List Ty} {xs : List Tw} (h : Cp base W b cv ts xs) {j : Nat} (hj : j < ts.length) :
    ∃ a1 c1, (∃ hx : j < xs.length, xs[j] = (ty ts j, a1, c1)) ∧ W.cell? ⟨b, j * 2, none⟩ = some (.string (ty ts j).1.1) ∧ W.cell? ⟨b, j * 2 + 1, none⟩ = some (.slice a1 (ty ts j).2.length c1) ∧ (∀ i, W.frozen? ⟨b, i, none⟩ = false) ∧
      W.ownsRow base 56 2 (.slice a1 (ty ts j).2.length c1) (ty ts j).2.length (newsF (ty ts j).2) := by
  have hx : j < xs.length := by rw [h.len]; exact hj
  have et : ty ts j = xs[j].1 := by simp [ty, ← h.map, hx]
  obtain ⟨g, e, _, _, _, _, hc, hf⟩ := owns_cells h.row (by omega)
  cases e
  obtain ⟨n1, n2⟩ := newsT_at xs j hx
  have ho := h.own xs[j] (List.getElem_mem hx)
  refine ⟨xs[j].2.1, xs[j].2.2, ⟨hx, by rw [et]⟩, ?_, ?_, hf, by rw [et]; exact ho⟩
  · rw [hc _ (by omega), n1, et]
  · rw [hc _ (by omega), n2, et]

/-- The type's fields in memory may have been changed; it is stored; the schema is handed back. -/
theorem Cp.final {base : Nat} {W W' : World} {b cv : Nat} {ts : List Ty} {xs : List Tw} (h : Cp base W b cv ts xs) {j : Nat} (hj : j < ts.length) {a1 : Option Addr} {c1 : Nat} (hx : ∃ hx : j < xs.length, xs[j] = (ty ts j, a1, c1))
    (hs : ∀ q, q < W.heap.size → some q ≠ (Value.slice a1 (ty ts j).2.length c1).ownBlock → (∀ cs, ¬ (W.heap[q]? = some (.cells cs 51 (0, 0)) ∧ q ≠ b)) → W'.heap[q]? = W.heap[q]?)
    {fs : List Fd} {a' : Option Addr} {c' : Nat} (own' : W'.ownsRow base 56 2 (.slice a' fs.length c') fs.length (newsF fs)) (h5 : ∀ k, (ty ts k).2.length ≤ 5) (hf5 : fs.length ≤ 6) {S : Nat} (hS : S < base) (v : Value) :
    Typs (((W'.setCell ⟨b, j * 2, none⟩ (.string (ty ts j).1.1)).setCell ⟨b, j * 2 + 1, none⟩ (.slice a' fs.length c')).setCell ⟨S, 0, none⟩ v).heap.size (((W'.setCell ⟨b, j * 2, none⟩ (.string (ty ts j).1.1)).setCell ⟨b, j * 2 + 1, none⟩ (.slice a' fs.length c')).setCell ⟨S, 0, none⟩ v) (some ⟨b, 0, none⟩) (ts.set j ((ty ts j).1, fs)) := by
  obtain ⟨hxl, hxe⟩ := hx
  have e2 : (xs.set j (((ty ts j).1, fs), a', c')).map (·.1) = ts.set j ((ty ts j).1, fs) := by rw [List.map_set, h.map]
  obtain ⟨hbb, curb, hgb⟩ := owns_lt h.row (g := b) rfl
  have hblt := (Array.getElem?_eq_some_iff.1 hgb).1
  have r1 : W'.ownsRow base 51 2 (.slice (some ⟨b, 0, none⟩) ts.length cv) ts.length (newsT xs) := owns_keep h.row fun g hg hl => by
    cases hg
    refine hs b hl (fun e => ?_) (fun cs hh => hh.2 rfl)
    obtain ⟨_, cur, h1⟩ := owns_lt (h.own xs[j] (List.getElem_mem hxl)) (g := b) (by rw [hxe]; exact e.symm)
    rw [hgb] at h1
    cases h1
  have r2 : ∀ i (hi : i < xs.length), i ≠ j → Tw.own base W' xs[i] := fun i hi hne => by
    refine owns_keep (h.own xs[i] (List.getElem_mem hi)) fun g hg hl => hs g hl (fun e => ?_) (fun cs hh => ?_)
    · have hap := h.apart
      rw [List.pairwise_iff_getElem] at hap
      have ej : xs[j].blk = some g := by rw [hxe]; exact e.symm
      have ei : xs[i].blk = some g := hg
      rcases Nat.lt_or_gt_of_ne hne with hlt | hgt
      · exact hap i j hi hxl hlt g ei ej
      · exact hap j i hxl hi hgt g ej ei
    · obtain ⟨_, cur, h1⟩ := owns_lt (h.own xs[i] (List.getElem_mem hi)) hg
      rw [h1] at hh
      cases hh.1
  have := typs_put (y := (((ty ts j).1, fs), a', c')) (S := S) h.len hj r1 r2 own' (fun x hx => by
    obtain ⟨i, hi, rfl⟩ := List.getElem_of_mem hx
    rw [List.length_set] at hi
    rw [List.getElem_set]
    split
    · unfold maxLen; simp only; omega
    · have et : ty ts i = xs[i].1 := by simp [ty, ← h.map, hi]
      have := h5 i
      rw [et] at this
      unfold maxLen; omega) hS v
  rw [e2] at this
  exact this

theorem newsF_name (fs : List Fd) (p : Nat) (hp : p < fs.length) (o : Txt) : newsF (fs.set p (o, (fd fs p).2)) = (newsF fs).set (p * 2) (.string o.1) := by
  rw [newsF_set fs p hp]
  have h := (newsF_at fs p hp).2
  apply List.ext_getElem?
  intro i
  rw [List.getElem?_set]
  split
  · next e =>
    subst e
    simp only [List.length_set]
    rw [if_pos (by rw [newsF_len]; omega), List.getElem?_set_ne (by omega), h]
  · rfl
theorem newsF_kind (fs : List Fd) (p : Nat) (hp : p < fs.length) (k : Int) : newsF (fs.set p ((fd fs p).1, k)) = (newsF fs).set (p * 2 + 1) (.int .i64 k) := by
  rw [newsF_set fs p hp]
  have h := (newsF_at fs p hp).1
  congr 1
  apply List.ext_getElem?
  intro i
  rw [List.getElem?_set]
  split
  · next e =>
    subst e
    rw [if_pos (by rw [newsF_len]; omega), h]
  · rfl
theorem newsF_take (fs : List Fd) (p : Nat) : newsF (fs.take p) = (newsF fs).take (p * 2) := by
  induction fs generalizing p with
  | nil => simp [newsF]
  | cons a l ih =>
    cases p with
    | zero => simp [newsF]
    | succ p =>
      have := ih p
      simp only [newsF, List.take_succ_cons, List.flatMap_cons, List.cons_append, List.nil_append] at this ⊢
      rw [this, show (p + 1) * 2 = p * 2 + 1 + 1 by omega]
      simp
theorem newsF_drop (fs : List Fd) (p : Nat) : newsF (fs.drop p) = (newsF fs).drop (p * 2) := by
  induction fs generalizing p with
  | nil => simp [newsF]
  | cons a l ih =>
    cases p with
    | zero => simp [newsF]
    | succ p =>
      have := ih p
      simp only [newsF, List.drop_succ_cons, List.flatMap_cons, List.cons_append, List.nil_append] at this ⊢
      rw [this, show (p + 1) * 2 = p * 2 + 1 + 1 by omega]
      simp
theorem newsT_take (xs : List Tw) (p : Nat) : newsT (xs.take p) = (newsT xs).take (p * 2) := by
  induction xs generalizing p with
  | nil => simp [newsT]
  | cons a l ih =>
    cases p with
    | zero => simp [newsT]
    | succ p =>
      have := ih p
      simp only [newsT, List.take_succ_cons, List.flatMap_cons, List.cons_append, List.nil_append] at this ⊢
      rw [this, show (p + 1) * 2 = p * 2 + 1 + 1 by omega]
      simp
theorem newsT_drop (xs : List Tw) (p : Nat) : newsT (xs.drop p) = (newsT xs).drop (p * 2) := by
  induction xs generalizing p with
  | nil => simp [newsT]
  | cons a l ih =>
    cases p with
    | zero => simp [newsT]
    | succ p =>
      have := ih p
      simp only [newsT, List.drop_succ_cons, List.flatMap_cons, List.cons_append, List.nil_append] at this ⊢
      rw [this, show (p + 1) * 2 = p * 2 + 1 + 1 by omega]
      simp
theorem newsT_one (xs : List Tw) : ∀ u ∈ newsT xs, u.oneCell' = true := by
  intro u hu
  simp only [newsT, List.mem_flatMap, List.mem_cons, List.not_mem_nil, or_false] at hu
  obtain ⟨x, _, rfl | rfl⟩ := hu <;> rfl
theorem owns_shape {W : World} {base : Nat} {e : TypeId} {a : Option Addr} {size n c : Nat} {xs : List Value} (h : W.ownsRow base e size (.slice a n c) n xs) :
    (a = none ∧ n = 0 ∧ c = 0) ∨ ∃ g, a = some ⟨g, 0, none⟩ ∧ g < W.heap.size ∧ n ≤ c ∧ ∀ i, i < n * size → W.cell? ⟨g, i, none⟩ = xs[i]? := by
  rcases h.2 with ⟨h0, h1⟩ | ⟨g, cap, cur, h0, hb, hg, hnc, _, _, ht⟩
  · simp only [Value.slice.injEq] at h0
    exact .inl h0
  · simp only [Value.slice.injEq, true_and] at h0
    obtain ⟨rfl, rfl⟩ := h0
    refine .inr ⟨g, rfl, (Array.getElem?_eq_some_iff.1 hg).1, hnc, fun i hi => ?_⟩
    rw [← ht, List.getElem?_take, if_pos hi, Array.getElem?_toList]
    simp [World.cell?, hg]
/-- Blocks of unlike kinds are unlike. -/
theorem box_ne {W : World} {B g : Nat} {t e : TypeId} {cs cur : Array Value} (h : Box W B t cs) (hg : W.heap[g]? = some (.cells cur e (0, 0))) (hne : e ≠ t) : g ≠ B := by
  rintro rfl
  rw [show W.heap[g]? = _ from h] at hg
  cases hg
  exact hne rfl

end Go.Proofs.YtnfmhcddfjgcmaaDoor

namespace Go.Proofs.YtnfmhcddfjgcmaaDoor
open Go.RowKit Go.Shelf

theorem filterMap_range_one {β : Type} {n p : Nat} {f : Nat → Option β} {g : Nat → β} (hp : p < n) (h : ∀ j, j < n → j ≠ p → f j = some (g j)) : (List.range n).filterMap f = ((List.range n).map g).take p ++ (f p).toList ++ ((List.range n).map g).drop (p + 1) := by
  induction n with
  | zero => omega
  | succ n ih =>
    rw [List.range_succ, List.filterMap_append, List.map_append]
    rcases Nat.lt_or_ge p n with hl | hl
    · rw [ih hl (fun j hj hne => h j (by omega) hne)]
      simp only [List.filterMap_cons, List.filterMap_nil, h n (by omega) (by omega), List.map_cons, List.map_nil]
      rw [List.take_append_of_le_length (by simp; omega), List.drop_append_of_le_length (by simp; omega)]
      simp only [List.append_assoc]
    · obtain rfl : p = n := by omega
      rw [filterMap_all (g := g) (fun j hj => h j (by omega) (by omega))]
      rw [List.take_append_of_le_length (by simp), List.take_of_length_le (by simp), List.drop_of_length_le (by simp)]
      cases hf : f p <;> simp [hf]

theorem vNew_at {nm : Txt} {c : Ch} {fs : List Fd} {tm : Int} {vs : List Vl} {p : Nat} (hE : EvOk fs tm vs) (hF : SchF fs) (hp : placeN (fnames fs) c.f.1 = some p) (h1 : c.k ≠ 1) :
    vNew nm c fs vs = vs.take p ++ ((fchg (key nm == key c.t) c (fd fs p)).map fun g => (g.2, (vl vs p).2)).toList ++ vs.drop (p + 1) := by
  obtain ⟨hl, -⟩ := place_lt hp
  rw [vNew_eq, filterMap_range_one (g := vl vs) hl, ← hE.len, vs_range]
  · simp [h1]
  · intro j hj hne
    have := fchg_other hF hp (key nm == key c.t) j hj hne
    have e : fd fs j = fs[j] := by simp [fd, hj]
    rw [e, this, Option.map_some, ← e, ← hE.kind j hj]
theorem vNew_one {nm : Txt} {c : Ch} {fs : List Fd} {tm : Int} {vs : List Vl} (hE : EvOk fs tm vs) (hn : key nm = key c.t) (h1 : c.k = 1) : vNew nm c fs vs = vs ++ [(c.dk, c.dn, c.ds)] := by
  rw [vNew_keep hE fun f _ => ⟨f, fchg_no _ c (by omega) (by omega) (by omega) f, rfl⟩]
  simp [hn, h1]
theorem vNew_two {nm : Txt} {c : Ch} {fs : List Fd} {tm : Int} {vs : List Vl} {p : Nat} (hE : EvOk fs tm vs) (hF : SchF fs) (hp : placeN (fnames fs) c.f.1 = some p) (hn : key nm = key c.t) (h2 : c.k = 2) : vNew nm c fs vs = vs.take p ++ vs.drop (p + 1) := by
  obtain ⟨hl, he⟩ := place_lt hp
  rw [vNew_at hE hF hp (by omega)]
  simp [fchg, hn, fd, hl, he, h2]
theorem vNew_three {nm : Txt} {c : Ch} {fs : List Fd} {tm : Int} {vs : List Vl} (hE : EvOk fs tm vs) (h3 : c.k = 3) : vNew nm c fs vs = vs := by
  rw [vNew_keep hE fun f _ => ?_]
  · simp [h3]
  · unfold fchg
    split
    · exact ⟨(c.o, f.2), by simp [h3], rfl⟩
    · exact ⟨_, rfl, rfl⟩
theorem vNew_four {nm : Txt} {c : Ch} {fs : List Fd} {tm : Int} {vs : List Vl} {p : Nat} (hE : EvOk fs tm vs) (hF : SchF fs) (hp : placeN (fnames fs) c.f.1 = some p) (hn : key nm = key c.t) (h4 : c.k = 4) : vNew nm c fs vs = vs.set p (1, (vl vs p).2) := by
  obtain ⟨hl, he⟩ := place_lt hp
  rw [vNew_at hE hF hp (by omega), ← set_split vs p (by rw [hE.len]; exact hl)]
  simp [fchg, hn, fd, hl, he, h4]
theorem vNew_other {nm : Txt} {c : Ch} {fs : List Fd} {tm : Int} {vs : List Vl} (hE : EvOk fs tm vs) (hn : key nm ≠ key c.t) : vNew nm c fs vs = vs := by
  have e : (key nm == key c.t) = false := by simp [hn]
  rw [vNew_keep hE fun f _ => ⟨f, by rw [e]; exact fchg_not c f, rfl⟩, e]
  simp

theorem newsV_take (vs : List Vl) (p : Nat) : newsV (vs.take p) = (newsV vs).take (p * 3) := by
  induction vs generalizing p with
  | nil => simp [newsV]
  | cons a l ih =>
    cases p with
    | zero => simp [newsV]
    | succ p =>
      have := ih p
      simp only [newsV, List.take_succ_cons, List.flatMap_cons, List.cons_append, List.nil_append] at this ⊢
      rw [this, show (p + 1) * 3 = p * 3 + 1 + 1 + 1 by omega]
      simp
theorem newsV_drop (vs : List Vl) (p : Nat) : newsV (vs.drop p) = (newsV vs).drop (p * 3) := by
  induction vs generalizing p with
  | nil => simp [newsV]
  | cons a l ih =>
    cases p with
    | zero => simp [newsV]
    | succ p =>
      have := ih p
      simp only [newsV, List.drop_succ_cons, List.flatMap_cons, List.cons_append, List.nil_append] at this ⊢
      rw [this, show (p + 1) * 3 = p * 3 + 1 + 1 + 1 by omega]
      simp
theorem newsV_set (vs : List Vl) (p : Nat) (hp : p < vs.length) (v : Vl) : newsV (vs.set p v) = (((newsV vs).set (p * 3) (.int .i64 v.1)).set (p * 3 + 1) (.int .i64 v.2.1)).set (p * 3 + 2) (.string v.2.2.1) := by
  induction vs generalizing p with
  | nil => simp at hp
  | cons a l ih =>
    cases p with
    | zero => simp [newsV]
    | succ p =>
      have := ih p (by simpa using hp)
      simp only [newsV, List.set_cons_succ, List.flatMap_cons, List.cons_append, List.nil_append] at this ⊢
      rw [this, show (p + 1) * 3 = p * 3 + 1 + 1 + 1 by omega, show p * 3 + 1 + 1 + 1 + 1 = p * 3 + 1 + 1 + 1 + 1 by rfl, show p * 3 + 1 + 1 + 1 + 2 = p * 3 + 2 + 1 + 1 + 1 by omega]
      simp

end Go.Proofs.YtnfmhcddfjgcmaaDoor
