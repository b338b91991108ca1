/-
  The type and the event that EventKinds makes, as lists; how they lie in memory; what event's Is answers of them.
-/
import Derived.Test.YthifciikmdnhaaaKnown
namespace Go.Proofs.Ythifciikmdnhaaa
open Go.RowKit Go.Shelf

/-- The kind that a byte asks for. -/
def kdOf (bs : Nat → Nat) (q : Nat) : Int := ((bs q % 3 : Nat) : Int) + 1
def fsOf (bs : Nat → Nat) (n : Nat) : List Fd := (List.range n).map fun q => (t1 (UInt8.ofNat (97 + q)), kdOf bs q)
def vsOf (bs : Nat → Nat) (n : Nat) : List Vl := (List.range n).map fun q => (kdOf bs q, 0, t0)
theorem fsOf_len (bs : Nat → Nat) (n : Nat) : (fsOf bs n).length = n := by simp [fsOf]
theorem vsOf_len (bs : Nat → Nat) (n : Nat) : (vsOf bs n).length = n := by simp [vsOf]
theorem newsF_fsOf (bs : Nat → Nat) (n : Nat) : newsF (fsOf bs (n + 1)) = newsF (fsOf bs n) ++ [.string (t1 (UInt8.ofNat (97 + n))).1, .int .i64 (kdOf bs n)] := by simp [newsF, fsOf, List.range_succ]
theorem newsV_vsOf (bs : Nat → Nat) (n : Nat) : newsV (vsOf bs (n + 1)) = newsV (vsOf bs n) ++ [.int .i64 (kdOf bs n), .int .i64 0, .string ⟨#[]⟩] := by simp [newsV, vsOf, List.range_succ, t0]
theorem fd_fsOf (bs : Nat → Nat) {n q : Nat} (h : q < n) : fd (fsOf bs n) q = (t1 (UInt8.ofNat (97 + q)), kdOf bs q) := by simp [fd, fsOf, h]
theorem vl_vsOf (bs : Nat → Nat) {n q : Nat} (h : q < n) : vl (vsOf bs n) q = (kdOf bs q, 0, t0) := by simp [vl, vsOf, h]
theorem kdOf_in (bs : Nat → Nat) (q : Nat) : kdOf bs q = 1 ∨ kdOf bs q = 2 ∨ kdOf bs q = 3 := by unfold kdOf; omega

/-- The schema of one type t with these fields. -/
def tsT (fs : List Fd) : List Ty := [(t1 116, fs)]
theorem place_t (fs : List Fd) : placeN (tnames (tsT fs)) ⟨#[116]⟩ = some 0 := by rw [show tnames (tsT fs) = [t1 116] from rfl, place_eq]; decide
theorem isE_t (fs : List Fd) (ts : Int) (vs : List Vl) : isE (tsT fs) ⟨t1 116, ts, vs⟩ = if wholeB fs.length ts vs then (if kindsB (slTo fs vs (min fs.length vs.length)) then 0 else 14) else 10 := by
  unfold isE
  rw [show (t1 116).1 = ⟨#[116]⟩ from rfl, place_t]
  rfl
theorem noV_zero {k : Int} (h : k = 1 ∨ k = 2 ∨ k = 3) : noV (k, 0, t0) = false := by
  unfold noV
  simp only [isB_eq]
  rcases h with rfl | rfl | rfl <;> decide
theorem anyNo_of {vs : List Vl} (h : ∀ q, q < vs.length → ∃ k, (k = 1 ∨ k = 2 ∨ k = 3) ∧ vl vs q = (k, 0, t0)) : anyNo vs = false := by
  unfold anyNo
  rw [List.any_eq_false]
  intro x hx
  rw [List.mem_iff_getElem] at hx
  obtain ⟨q, hq, rfl⟩ := hx
  obtain ⟨k, hk, e⟩ := h q hq
  have : vs[q] = (k, 0, t0) := by rw [← e]; simp [vl, hq]
  rw [this, noV_zero hk]
  simp
/-- Out of time, or too few or too many: ErrForm. -/
theorem is_out (fs : List Fd) (ts : Int) (vs : List Vl) (h : ts < 0 ∨ 1073741824 < ts ∨ vs.length ≠ fs.length) : isE (tsT fs) ⟨t1 116, ts, vs⟩ = 10 := by
  rw [isE_t]
  have : wholeB fs.length ts vs = false := by
    unfold wholeB
    rcases h with h | h | h
    · simp [show ¬ 0 ≤ ts by omega]
    · simp [show ¬ ts ≤ 1073741824 by omega]
    · simp [h]
  simp [this]
theorem whole_in {bs : Nat → Nat} {n : Nat} {ts : Int} {vs : List Vl} (h : 0 ≤ ts ∧ ts ≤ 1073741824) (hl : vs.length = n) (hv : ∀ q, q < vs.length → ∃ k, (k = 1 ∨ k = 2 ∨ k = 3) ∧ vl vs q = (k, 0, t0)) : wholeB (fsOf bs n).length ts vs = true := by
  unfold wholeB
  rw [anyNo_of hv, fsOf_len]
  simp [h.1, h.2, hl]
theorem is_as (bs : Nat → Nat) (n : Nat) (ts : Int) (h : 0 ≤ ts ∧ ts ≤ 1073741824) : isE (tsT (fsOf bs n)) ⟨t1 116, ts, vsOf bs n⟩ = 0 := by
  rw [isE_t, whole_in h (vsOf_len bs n) (fun q hq => ⟨_, kdOf_in bs q, vl_vsOf bs (by rwa [vsOf_len] at hq)⟩)]
  have : kindsB (slTo (fsOf bs n) (vsOf bs n) (min (fsOf bs n).length (vsOf bs n).length)) = true := by
    unfold kindsB slTo
    rw [List.all_eq_true]
    intro x hx
    rw [List.mem_map] at hx
    obtain ⟨q, hq, rfl⟩ := hx
    rw [fsOf_len, vsOf_len, List.mem_range] at hq
    rw [fd_fsOf bs (by omega), vl_vsOf bs (by omega)]
    simp
  simp [this]
theorem is_set (bs : Nat → Nat) (n j : Nat) (ts : Int) (h : 0 ≤ ts ∧ ts ≤ 1073741824) (hj : j < n) : isE (tsT (fsOf bs n)) ⟨t1 116, ts, (vsOf bs n).set j (kdOf bs j % 3 + 1, 0, t0)⟩ = 14 := by
  have hl : ((vsOf bs n).set j (kdOf bs j % 3 + 1, 0, t0)).length = n := by rw [List.length_set, vsOf_len]
  have hat : ∀ q, q < n → vl ((vsOf bs n).set j (kdOf bs j % 3 + 1, 0, t0)) q = if q = j then (kdOf bs j % 3 + 1, 0, t0) else (kdOf bs q, 0, t0) := by
    intro q hq
    by_cases e : q = j
    · subst e; simp [vl, vsOf_len, hq]
    · rw [if_neg e]
      have := vl_vsOf bs hq
      simp only [vl] at this ⊢
      rw [List.getElem?_set_ne (Ne.symm e)]
      exact this
  rw [isE_t, whole_in h hl (fun q hq => by
    rw [hl] at hq
    rw [hat q hq]
    by_cases e : q = j
    · rw [if_pos e]; exact ⟨_, by have := kdOf_in bs j; omega, rfl⟩
    · rw [if_neg e]; exact ⟨_, kdOf_in bs q, rfl⟩)]
  have : kindsB (slTo (fsOf bs n) ((vsOf bs n).set j (kdOf bs j % 3 + 1, 0, t0)) (min (fsOf bs n).length ((vsOf bs n).set j (kdOf bs j % 3 + 1, 0, t0)).length)) = false := by
    unfold kindsB slTo
    rw [List.all_eq_false]
    refine ⟨(fd (fsOf bs n) j, vl ((vsOf bs n).set j (kdOf bs j % 3 + 1, 0, t0)) j), ?_, ?_⟩
    · rw [List.mem_map]
      exact ⟨j, by rw [List.mem_range, fsOf_len, hl]; omega, rfl⟩
    · rw [hat j hj, if_pos rfl, fd_fsOf bs hj]
      have := kdOf_in bs j
      simp
      omega
  rw [if_pos rfl, this]
  rfl

/-- Rows in memory, behind an append to another row. -/
theorem grown_box {W Wa w2 : World} {r : Option Nat} {B : Nat} {t : TypeId} {cs : Array Value} (hb : Below W.heap.size W Wa) (hg : Wa.grownBy w2 r) (h : Box W B t cs) (hne : r ≠ some B) : Box w2 B t cs := by
  have h1 := h.on hb h.lt
  exact (hg.block B h1.lt (fun e => hne e.symm)).trans h1
theorem grown_owns {W Wa w2 : World} {base base' : Nat} {e e' : TypeId} {size size' : Nat} {v u : Value} {n m : Nat} {xs ys : List Value} (hb : Below W.heap.size W Wa) (hv : W.ownsRow base e size v n xs) (hg : Wa.grownBy w2 v.ownBlock) (hu : W.ownsRow base' e' size' u m ys) (hne : e ≠ e') : w2.ownsRow base' e' size' u m ys := by
  refine owns_keep hu fun g hgu hgl => ?_
  obtain ⟨_, cu, hcu⟩ := owns_lt hu hgu
  refine (hg.block g (Nat.lt_of_lt_of_le hgl hb.size) (fun e => ?_)).trans (hb.block g hgl)
  obtain ⟨_, cv, hcv⟩ := owns_lt hv e.symm
  rw [hcu] at hcv
  simp only [Option.some.injEq, Obj.cells.injEq] at hcv
  exact hne hcv.2.1.symm
theorem owns_ne_box {W : World} {base : Nat} {e : TypeId} {size : Nat} {v : Value} {n : Nat} {xs : List Value} {B : Nat} {t : TypeId} {cs : Array Value} (hv : W.ownsRow base e size v n xs) (h : Box W B t cs) (hne : e ≠ t) : v.ownBlock ≠ some B := by
  intro eq
  obtain ⟨_, cv, hcv⟩ := owns_lt hv eq
  rw [show W.heap[B]? = _ from h] at hcv
  simp only [Option.some.injEq, Obj.cells.injEq] at hcv
  exact hne hcv.2.1.symm

/-- A value stored in its place, in a row of one's own. -/
theorem owns_store {W : World} {base g c : Nat} {vs : List Vl} (h : W.ownsRow base 33 3 (.slice (some ⟨g, 0, none⟩) vs.length c) vs.length (newsV vs)) (j : Nat) (hj : j < vs.length) (x : Vl) :
    (((W.setCell ⟨g, j * 3, none⟩ (.int .i64 x.1)).setCell ⟨g, j * 3 + 1, none⟩ (.int .i64 x.2.1)).setCell ⟨g, j * 3 + 2, none⟩ (.string x.2.2.1)).ownsRow base 33 3 (.slice (some ⟨g, 0, none⟩) vs.length c) vs.length (newsV (vs.set j x)) := by
  rcases h.2 with ⟨e, _⟩ | ⟨g', c', cur, e, hb, hg, hnc, hcm, hcs, ht⟩
  · cases e
  · simp only [Value.slice.injEq, Option.some.injEq, Addr.mk.injEq, true_and] at e
    obtain ⟨⟨rfl, _⟩, rfl⟩ := e
    have hbx : Box W g 33 cur := hg
    have h3 := ((hbx.set (j * 3) (.int .i64 x.1)).set (j * 3 + 1) (.int .i64 x.2.1)).set (j * 3 + 2) (.string x.2.2.1)
    have hj3 : j * 3 + 2 < cur.size := by rw [hcs]; have : (j + 1) * 3 ≤ c * 3 := Nat.mul_le_mul_right _ (by omega); omega
    refine ⟨by rw [newsV_len, List.length_set], .inr ⟨g, c, _, rfl, hb, h3, hnc, hcm, by simpa using hcs, ?_⟩⟩
    apply List.ext_getElem?
    intro i
    by_cases hi : i < vs.length * 3
    · rw [List.getElem?_take, if_pos hi, Array.getElem?_toList]
      have hq : i / 3 < vs.length := by omega
      have hq' : i / 3 < (vs.set j x).length := by rwa [List.length_set]
      have hcur : cur[i]? = (newsV vs)[i]? := by rw [← ht, List.getElem?_take, if_pos hi, Array.getElem?_toList]
      have hN := newsV_at (vs.set j x) (i / 3) hq'
      have hO := newsV_at vs (i / 3) hq
      have hset : vl (vs.set j x) (i / 3) = if i / 3 = j then x else vl vs (i / 3) := by
        by_cases e : i / 3 = j
        · rw [if_pos e]; simp [vl, e, hj]
        · rw [if_neg e]; simp only [vl]; rw [List.getElem?_set_ne (Ne.symm e)]
      rw [hset] at hN
      have h3c : i % 3 = 0 ∨ i % 3 = 1 ∨ i % 3 = 2 := by omega
      by_cases e : i / 3 = j
      · rw [if_pos e] at hN
        have hs1 : j * 3 < cur.size := by omega
        have hs2 : j * 3 + 1 < (cur.setIfInBounds (j * 3) (.int .i64 x.1)).size := by rw [Array.size_setIfInBounds]; omega
        have hs3 : j * 3 + 2 < ((cur.setIfInBounds (j * 3) (.int .i64 x.1)).setIfInBounds (j * 3 + 1) (.int .i64 x.2.1)).size := by rw [Array.size_setIfInBounds, Array.size_setIfInBounds]; omega
        rcases h3c with hr | hr | hr
        · have hNi := hN.1
          rw [show i / 3 * 3 = i by omega] at hNi
          rw [hNi, show i = j * 3 by omega, Array.getElem?_setIfInBounds_ne (by omega), Array.getElem?_setIfInBounds_ne (by omega), Array.getElem?_setIfInBounds_self, if_pos hs1]
        · have hNi := hN.2.1
          rw [show i / 3 * 3 + 1 = i by omega] at hNi
          rw [hNi, show i = j * 3 + 1 by omega, Array.getElem?_setIfInBounds_ne (by omega), Array.getElem?_setIfInBounds_self, if_pos hs2]
        · have hNi := hN.2.2
          rw [show i / 3 * 3 + 2 = i by omega] at hNi
          rw [hNi, show i = j * 3 + 2 by omega, Array.getElem?_setIfInBounds_self, if_pos hs3]
      · rw [if_neg e] at hN
        have n0 : ¬ j * 3 = i := by omega
        have n1 : ¬ j * 3 + 1 = i := by omega
        have n2 : ¬ j * 3 + 2 = i := by omega
        rw [Array.getElem?_setIfInBounds_ne n2, Array.getElem?_setIfInBounds_ne n1, Array.getElem?_setIfInBounds_ne n0, hcur]
        rcases h3c with hr | hr | hr
        · have h1 := hN.1
          rw [← hO.1, show i / 3 * 3 = i by omega] at h1
          exact h1.symm
        · have h1 := hN.2.1
          rw [← hO.2.1, show i / 3 * 3 + 1 = i by omega] at h1
          exact h1.symm
        · have h1 := hN.2.2
          rw [← hO.2.2, show i / 3 * 3 + 2 = i by omega] at h1
          exact h1.symm
    · rw [List.getElem?_eq_none (by simp; omega), List.getElem?_eq_none (by rw [newsV_len, List.length_set]; omega)]

end Go.Proofs.Ythifciikmdnhaaa
