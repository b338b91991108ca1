/-
  What the document's number tells: for every text and place where a number begins, in whatever world; nothing that lay is turned.
-/
import Derived.Test.YtgfaaeloppdkkaaDoorNumP
import Derived.Test.YtgfaaeloppdkkaaDoorDText
namespace Go.Proofs.YtgfaaeloppdkkaaDoor
open Go.RowKit Go.Shelf

/-- What digits spell, as far as no more than 'most': as the document reckons it. -/
def accTo (most acc : Nat) : List UInt8 → Option Nat
  | [] => some acc
  | c :: r => if 48 ≤ c.toNat ∧ c.toNat ≤ 57 then (if (most - (c.toNat - 48)) / 10 < acc then none else accTo most (acc * 10 + (c.toNat - 48)) r) else some acc
/-- Of digits alone: just what they spell, if it is no more. -/
theorem accTo_digits (most : Nat) (hm : 9 ≤ most) : ∀ (l : List UInt8) (acc : Nat), allB 48 57 l = true → acc ≤ most → accTo most acc l = if valL acc l ≤ most then some (valL acc l) else none
  | [], acc, _, h => by simp [accTo, valL, h]
  | c :: r, acc, h, ha => by
    simp only [allB, List.all_cons, Bool.and_eq_true] at h
    have hc : 48 ≤ c.toNat ∧ c.toNat ≤ 57 := by have := h.1; simp [inB] at this; omega
    have he : valL acc (c :: r) = valL (acc * 10 + (c.toNat - 48)) r := rfl
    have hg := valL_ge r (acc * 10 + (c.toNat - 48))
    rw [accTo, if_pos hc, he]
    by_cases hq : (most - (c.toNat - 48)) / 10 < acc
    · rw [if_pos hq, if_neg (by omega)]
    · rw [if_neg hq]
      exact accTo_digits most hm r _ h.2 (by omega)
theorem parseM_over : ∀ (l : List UInt8) (acc : Nat), allB 48 57 l = true → ∀ u, Lib.parseUintM (2 ^ 64 - 1) acc l = .ok u → u = valL acc l
  | [], acc, _, u, h => by simp [Lib.parseUintM] at h; exact h.symm
  | c :: r, acc, h, u, hu => by
    simp only [allB, List.all_cons, Bool.and_eq_true] at h
    have hc : 48 ≤ c.toNat ∧ c.toNat ≤ 57 := by have := h.1; simp [inB] at this; omega
    rw [Lib.parseUintM, if_pos hc] at hu
    split at hu
    · cases hu
    · split at hu
      · cases hu
      · exact parseM_over r _ h.2 u hu
/-- What strconv tells of a sign and digits, by what they spell. -/
theorem parseI_digits (neg : Bool) (t : List UInt8) (ht : allB 48 57 t = true) (h1 : 1 ≤ t.length) :
    Lib.parseIntB 64 ((if neg then [45] else []) ++ t) = if valL 0 t ≤ (if neg then 9223372036854775808 else 9223372036854775807) then .ok (if neg then -(valL 0 t : Int) else (valL 0 t : Int)) else .range := by
  have hu : Lib.parseUintB 64 t = Lib.parseUintM (2 ^ 64 - 1) 0 t := by
    rw [Lib.parseUintB, if_neg (by intro e; rw [e] at h1; simp at h1)]
  have hs := parseM_digits (2 ^ 64 - 1) t 0 ht
  have hov := parseM_over t 0 ht
  have hok := parseM_ok t 0 ht
  cases t with
  | nil => simp at h1
  | cons c r =>
    have hc := digit_head ht rfl
    cases neg
    · simp only [Bool.false_eq_true, if_false, List.nil_append, Lib.parseIntB]
      rw [if_neg (by omega), hu]
      rcases hp : Lib.parseUintM (2 ^ 64 - 1) 0 (c :: r) with u | _ | _
      · have := hov u hp
        subst this
        simp only
        by_cases hle : valL 0 (c :: r) ≤ 9223372036854775807
        · rw [if_pos hle, if_neg (by omega), if_neg (by omega), if_neg (by omega)]
        · rw [if_neg hle, if_pos ⟨by omega, by omega⟩]
      · exact absurd hp hs
      · simp only
        rw [if_neg (by intro hle; rw [hok (by omega)] at hp; cases hp)]
    · simp only [if_true, List.cons_append, List.nil_append, Lib.parseIntB]
      rw [if_pos (by decide), hu]
      rcases hp : Lib.parseUintM (2 ^ 64 - 1) 0 (c :: r) with u | _ | _
      · have := hov u hp
        subst this
        simp only
        by_cases hle : valL 0 (c :: r) ≤ 9223372036854775808
        · rw [if_pos hle, if_neg (by simp), if_neg (by simp; omega), if_pos (by decide)]
        · rw [if_neg hle, if_neg (by simp), if_pos ⟨by decide, by omega⟩]
      · exact absurd hp hs
      · simp only
        rw [if_neg (by intro hle; rw [hok hle] at hp; cases hp)]

theorem leadL_stop (lo hi : Int) (l : List UInt8) (h : (leadL lo hi l).length < l.length) : inB lo hi (l[(leadL lo hi l).length]'h).toNat = false := by
  induction l with
  | nil => simp at h
  | cons c r ih =>
    cases hc : inB lo hi c.toNat
    · have e : leadL lo hi (c :: r) = [] := by simp [leadL, hc]
      simp only [e, List.length_nil, List.getElem_cons_zero]
      exact hc
    · have e : leadL lo hi (c :: r) = c :: leadL lo hi r := by simp [leadL, hc]
      have h' : (leadL lo hi r).length < r.length := by rw [e] at h; simpa using h
      have := ih h'
      simp only [e, List.length_cons, List.getElem_cons_succ]
      exact this
/-- The bytes of what a text begins with from a place on, and the one behind them. -/
theorem lead_in (lo hi : Int) (s : ByteArray) (a j : Nat) (h : j < (leadL lo hi (s.data.toList.drop a)).length) :
    ∃ hb : a + j < s.size, inB lo hi (s[a + j]'hb).toNat = true ∧ (leadL lo hi (s.data.toList.drop a))[j] = s[a + j]'hb := by
  have hl := leadL_len lo hi (s.data.toList.drop a)
  have hq : s.data.toList.length = s.size := Array.length_toList (xs := s.data)
  rw [List.length_drop, hq] at hl
  have hb : a + j < s.size := by omega
  have e : (leadL lo hi (s.data.toList.drop a))[j] = s[a + j]'hb := by
    have h2 := leadL_take lo hi (s.data.toList.drop a)
    have h3 : (leadL lo hi (s.data.toList.drop a))[j]? = (s.data.toList.drop a)[j]? := by
      conv => lhs; rw [h2]
      rw [List.getElem?_take, if_pos h]
    rw [List.getElem?_eq_getElem h, List.getElem?_drop, List.getElem?_eq_getElem (by rw [Array.length_toList]; exact hb)] at h3
    rw [Option.some.inj h3]
    exact at_data s (a + j) hb
  refine ⟨hb, ?_, e⟩
  rw [← e]
  have := leadL_all lo hi (s.data.toList.drop a)
  exact List.all_eq_true.1 this _ (List.getElem_mem h)
theorem lead_out (lo hi : Int) (s : ByteArray) (a : Nat) (hb : a + (leadL lo hi (s.data.toList.drop a)).length < s.size) :
    inB lo hi (s[a + (leadL lo hi (s.data.toList.drop a)).length]'hb).toNat = false := by
  have hl : (leadL lo hi (s.data.toList.drop a)).length < (s.data.toList.drop a).length := by
    have hq : s.data.toList.length = s.size := Array.length_toList (xs := s.data)
    rw [List.length_drop, hq]; omega
  have := leadL_stop lo hi _ hl
  rw [List.getElem_drop] at this
  rw [← at_data s _ hb]
  exact this

/-- What a number tells, by its digits. -/
theorem numW_of (L : List UInt8) (h : isNumL L = true) : numW L = if valL 0 (leadL 48 57 (L.drop (minusL L))) ≤ (if L.head? = some 45 then 9223372036854775808 else 9223372036854775807) then .word 2 [] (if L.head? = some 45 then -(valL 0 (leadL 48 57 (L.drop (minusL L))) : Int) else (valL 0 (leadL 48 57 (L.drop (minusL L))) : Int)) (minusL L + (leadL 48 57 (L.drop (minusL L))).length) else .bad 12 := by
  have hp := parseI_digits (decide (L.head? = some 45)) _ (leadL_all 48 57 (L.drop (minusL L))) (num_digits L h)
  rw [numW, num_take]
  by_cases hn : L.head? = some 45
  · simp only [hn, decide_true, if_true] at hp ⊢
    by_cases hle : valL 0 (leadL 48 57 (L.drop (minusL L))) ≤ 9223372036854775808
    · rw [if_pos hle] at hp ⊢
      simp only [hp]
      rfl
    · rw [if_neg hle] at hp ⊢
      simp only [hp]
  · simp only [hn, decide_false, if_false, Bool.false_eq_true] at hp ⊢
    by_cases hle : valL 0 (leadL 48 57 (L.drop (minusL L))) ≤ 9223372036854775807
    · rw [if_pos hle] at hp ⊢
      simp only [hp]
      rfl
    · rw [if_neg hle] at hp ⊢
      simp only [hp]

end Go.Proofs.YtgfaaeloppdkkaaDoor
