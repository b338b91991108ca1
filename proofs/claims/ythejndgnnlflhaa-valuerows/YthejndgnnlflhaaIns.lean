/-
  Rows of texts, as lists: one more at its place, once; that a rising row rises still; that once more changes nothing.
-/
import Derived.Test.YthejndgnnlflhaaKnown
import Derived.Sort.Walk0
namespace Go.Proofs.Ythejndgnnlflhaa
open Go.RowKit

def lessB (x y : ByteArray) : Bool := Op.bytesLess x.toList y.toList
def eqB (x y : ByteArray) : Bool := x.toList == y.toList

theorem str_ext {s t : ByteArray} (h : s.toList = t.toList) : s = t := by
  rw [ByteArray.toList_eq, ByteArray.toList_eq] at h
  exact ByteArray.ext (Array.toList_inj.1 h)
theorem eqB_iff (x y : ByteArray) : eqB x y = true ↔ x = y := by
  unfold eqB
  rw [beq_iff_eq]
  exact ⟨str_ext, fun h => by rw [h]⟩
theorem less_irrefl (x : ByteArray) : lessB x x = false := by
  unfold lessB
  rw [Go.Proofs.bytesLess_eq]
  exact decide_eq_false (List.lt_irrefl _)
theorem less_trans {x y z : ByteArray} (h : lessB x y = true) (k : lessB y z = true) : lessB x z = true := by
  unfold lessB at *
  rw [Go.Proofs.bytesLess_eq, decide_eq_true_eq] at *
  exact List.lt_trans h k
theorem less_total {x y : ByteArray} (h : lessB x y = false) (k : x ≠ y) : lessB y x = true := by
  unfold lessB at *
  rw [Go.Proofs.bytesLess_eq] at *
  rw [decide_eq_false_iff_not] at h
  rw [decide_eq_true_eq]
  rcases Std.lt_trichotomy (α := List UInt8) x.toList y.toList with h1 | h1 | h1
  · exact absurd h1 h
  · exact absurd (str_ext h1) k
  · exact h1

/-- One more, at its place, once. -/
def ins (x : ByteArray) : List ByteArray → List ByteArray
  | [] => [x]
  | y :: ys => if lessB x y = true then x :: y :: ys else if eqB x y = true then y :: ys else y :: ins x ys

theorem ins_twice (x : ByteArray) (ss : List ByteArray) : ins x (ins x ss) = ins x ss := by
  have hxx : eqB x x = true := (eqB_iff x x).2 rfl
  induction ss with
  | nil => simp [ins, less_irrefl, hxx]
  | cons y ys ih =>
    by_cases h1 : lessB x y = true
    · simp [ins, h1, less_irrefl, hxx]
    · by_cases h2 : eqB x y = true
      · simp [ins, h1, h2]
      · simp [ins, h1, h2, ih]

/-- Each above the one ahead of it. -/
def chain : List ByteArray → Prop
  | [] => True
  | [_] => True
  | a :: b :: t => lessB a b = true ∧ chain (b :: t)

theorem chain_ins (x : ByteArray) : ∀ ss, chain ss → chain (ins x ss)
  | [], _ => trivial
  | [y], _ => by
    unfold ins
    split
    · rename_i h; exact ⟨h, trivial⟩
    · split
      · trivial
      · rename_i h1 h2
        exact ⟨less_total (by simpa using h1) (fun e => h2 ((eqB_iff x y).2 e)), trivial⟩
  | y :: z :: t, hc => by
    have ih := chain_ins x (z :: t) hc.2
    unfold ins
    split
    · rename_i h; exact ⟨h, hc⟩
    · split
      · exact hc
      · rename_i h1 h2
        have hyx : lessB y x = true := less_total (by simpa using h1) (fun e => h2 ((eqB_iff x y).2 e))
        unfold ins at ih ⊢
        split
        · rename_i h3; rw [if_pos h3] at ih; exact ⟨hyx, ih⟩
        · rename_i h3
          rw [if_neg h3] at ih
          split
          · rename_i h4; rw [if_pos h4] at ih; exact ⟨hc.1, ih⟩
          · rename_i h4; rw [if_neg h4] at ih; exact ⟨hc.1, ih⟩

theorem chain_iff : ∀ ss : List ByteArray, chain ss ↔ ∀ j, j + 1 < ss.length → lessB (ss[j]?.getD ByteArray.empty) (ss[j + 1]?.getD ByteArray.empty) = true
  | [] => by simp [chain]
  | [_] => by simp [chain]
  | a :: b :: t => by
    simp only [chain]
    rw [chain_iff (b :: t)]
    constructor
    · rintro ⟨h1, h2⟩ j hj
      cases j with
      | zero => simpa using h1
      | succ j => simpa using h2 j (by simpa using hj)
    · intro h
      exact ⟨by simpa using h 0 (by simp), fun j hj => by simpa using h (j + 1) (by simpa using hj)⟩

theorem rise_chain (ss : List ByteArray) : riseB ss = true ↔ chain ss := by
  rw [chain_iff]
  unfold riseB allP pairsTo upto
  simp only [List.all_eq_true, List.mem_map, List.mem_range]
  constructor
  · intro h j hj
    exact h _ ⟨j, by omega, rfl⟩
  · rintro h _ ⟨j, hj, rfl⟩
    exact h j (by omega)

theorem upto_all (ss : List ByteArray) : upto (fun j => ss[j]?.getD ByteArray.empty) ss.length = ss := by
  apply List.ext_getElem
  · simp [upto]
  · intro i h1 h2
    simp [upto, h2]

theorem fold_placed (x : ByteArray) (ss acc : List ByteArray) : ss.foldl (wStep x) (acc, true) = (acc ++ ss, true) := by
  induction ss generalizing acc with
  | nil => simp
  | cons y ys ih => rw [List.foldl_cons]; simp only [wStep, if_true]; rw [ih]; simp

theorem fold_ins (x : ByteArray) (ss acc : List ByteArray) :
    (if (ss.foldl (wStep x) (acc, false)).2 = false then (ss.foldl (wStep x) (acc, false)).1 ++ [x] else (ss.foldl (wStep x) (acc, false)).1) = acc ++ ins x ss := by
  induction ss generalizing acc with
  | nil => simp [ins]
  | cons y ys ih =>
    rw [List.foldl_cons]
    by_cases h1 : lessB x y = true
    · have e : wStep x (acc, false) y = (acc ++ [x] ++ [y], true) := by simp only [wStep]; rw [if_neg (by simp)]; exact if_pos h1
      rw [e, fold_placed]
      simp [ins, h1]
    · by_cases h2 : eqB x y = true
      · have e : wStep x (acc, false) y = (acc ++ [y], true) := by simp only [wStep]; rw [if_neg (by simp)]; exact (if_neg h1).trans (congrArg (Prod.mk _) h2)
        rw [e, fold_placed]
        simp [ins, h1, h2]
      · have e : wStep x (acc, false) y = (acc ++ [y], false) := by simp only [wStep]; rw [if_neg (by simp)]; exact (if_neg h1).trans (congrArg (Prod.mk _) (by simpa [eqB] using h2))
        rw [e, ih]
        simp [ins, h1, h2]

theorem wAll_ins (x : ByteArray) (ss : List ByteArray) : wAll x ss = ins x ss := by
  unfold wAll wTo
  rw [upto_all]
  simpa using fold_ins x ss []

/-- What the document's With does: the first place at which x stands, or something above it. -/
theorem ins_at (x : ByteArray) (ss : List ByteArray) (k : Nat) (hk : k < ss.length) (hpre : ∀ j, j < k → lessB x (ss[j]?.getD ByteArray.empty) = false ∧ eqB x (ss[j]?.getD ByteArray.empty) = false) :
    (eqB x (ss[k]?.getD ByteArray.empty) = true → ins x ss = ss) ∧ (lessB x (ss[k]?.getD ByteArray.empty) = true → ins x ss = ss.take k ++ [x] ++ ss.drop k) := by
  induction ss generalizing k with
  | nil => simp at hk
  | cons y ys ih =>
    cases k with
    | zero =>
      simp only [List.getElem?_cons_zero, Option.getD_some]
      refine ⟨fun h => ?_, fun h => by simp [ins, h]⟩
      have h' := (eqB_iff x y).1 h
      have hl : lessB x y = false := by rw [← h']; exact less_irrefl x
      simp [ins, h, hl]
    | succ k =>
      have h0 := hpre 0 (by omega)
      simp only [List.getElem?_cons_zero, Option.getD_some] at h0
      have := ih k (by simpa using hk) (fun j hj => by simpa using hpre (j + 1) (by omega))
      simp only [List.getElem?_cons_succ]
      refine ⟨fun h => by simp [ins, h0.1, h0.2, this.1 h], fun h => ?_⟩
      have e := this.2 h
      simp only [ins, h0.1, h0.2, e]
      simp

theorem ins_end (x : ByteArray) (ss : List ByteArray) (hpre : ∀ j, j < ss.length → lessB x (ss[j]?.getD ByteArray.empty) = false ∧ eqB x (ss[j]?.getD ByteArray.empty) = false) : ins x ss = ss ++ [x] := by
  induction ss with
  | nil => rfl
  | cons y ys ih =>
    have h0 := hpre 0 (by simp)
    simp only [List.getElem?_cons_zero, Option.getD_some] at h0
    have := ih (fun j hj => by simpa using hpre (j + 1) (by simpa using hj))
    simp [ins, h0.1, h0.2, this]

theorem ins_len (x : ByteArray) (ss : List ByteArray) : (ins x ss).length ≤ ss.length + 1 := by
  induction ss with
  | nil => simp [ins]
  | cons y ys ih =>
    unfold ins
    split
    · simp
    · split
      · simp
      · simp; exact ih

end Go.Proofs.Ythejndgnnlflhaa
