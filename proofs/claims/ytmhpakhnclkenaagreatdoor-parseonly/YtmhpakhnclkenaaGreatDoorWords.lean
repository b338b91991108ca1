/-
  The words of a text as plain lists: what package word's Cut tells, reckoned without memory.
-/
import Derived.Test.YtmhpakhnclkenaaGreatDoorVal
import Derived.Lib.ParseIntB
namespace Go.Proofs.YtmhpakhnclkenaaGreatDoor
open Go.RowKit

/-- A word, or what is wrong in place of one: its kind, text, number, and how many bytes it takes up. -/
inductive Wd where
  | word (k : Int) (t : List UInt8) (n : Int) (len : Nat)
  | bad (e : Int)
  deriving DecidableEq

/-- The bytes from lo to hi that l begins with. -/
def leadL (lo hi : Int) (l : List UInt8) : List UInt8 := l.takeWhile fun c => inB lo hi c.toNat

/-- How many bytes up to the quote that ends a text. -/
def endL : List UInt8 → Option Nat
  | [] => none
  | c :: r =>
    if c.toNat = 34 then some 1
    else if c.toNat = 92 then
      match r with
      | [] => none
      | d :: r' => if d.toNat = 34 ∨ d.toNat = 92 then (endL r').map (· + 2) else none
    else if inB 32 126 c.toNat then (endL r).map (· + 1) else none

/-- What stands between the quotes. -/
def bareL : List UInt8 → List UInt8
  | [] => []
  | c :: r =>
    if c.toNat = 92 then
      match r with
      | [] => []
      | d :: r' => d :: bareL r'
    else c :: bareL r

def signsL : List (List UInt8) := [[33, 61], [60, 61], [40], [41], [91], [93], [58], [124], [44], [43], [33], [46], [45], [42], [61], [60]]

def nameW (l : List UInt8) : Wd := if (leadL 97 122 l).length ≤ 8 then .word 1 (leadL 97 122 l) 0 (leadL 97 122 l).length else .bad 12
def greatW (l : List UInt8) : Wd := if (leadL 65 90 l).length ≤ 8 then .word 4 (leadL 65 90 l) 0 (leadL 65 90 l).length else .bad 12
def isNumL (l : List UInt8) : Bool := match (if l.head? = some 45 then l.tail else l) with | [] => false | c :: _ => inB 48 57 c.toNat
def minusL (l : List UInt8) : Nat := if l.head? = some 45 then 1 else 0
def numLen (l : List UInt8) : Nat := minusL l + (leadL 48 57 (l.drop (minusL l))).length
def numW (l : List UInt8) : Wd := match Lib.parseIntB 64 (l.take (numLen l)) with | .ok v => .word 2 [] v (numLen l) | _ => .bad 12
def textW (l : List UInt8) : Wd := match endL (l.drop 1) with
  | none => .bad 21
  | some n => if (bareL ((l.drop 1).take (n - 1))).length ≤ 16 then .word 3 (bareL ((l.drop 1).take (n - 1))) 0 (n + 1) else .bad 12
def signW (l : List UInt8) : Wd := match signsL.find? (fun t => t.isPrefixOf l) with | some t => .word 5 t 0 t.length | none => .bad 21

def firstW (l : List UInt8) : Wd :=
  match l with
  | [] => .bad 21
  | c :: _ =>
    if inB 97 122 c.toNat then nameW l
    else if inB 65 90 c.toNat then greatW l
    else if isNumL l then numW l
    else if c.toNat = 34 then textW l
    else signW l

/-- What a text gives from a place on: its words, or what is wrong behind them. In 'word' the last cell is the place. -/
def toksL : Nat → Nat → List UInt8 → List Wd
  | 0, _, _ => []
  | f + 1, at_, l => match l with
    | [] => []
    | c :: r =>
      if c.toNat = 32 then toksL f (at_ + 1) r
      else match firstW l with
        | .bad e => [.bad e]
        | .word k t n len => .word k t n at_ :: toksL f (at_ + len) (l.drop len)

/-- What is wrong, if anything is, k words ahead. -/
def errL : Nat → List Wd → Int
  | _, [] => 0
  | _, .bad e :: _ => e
  | k, .word .. :: r => if k = 500 then 12 else errL (k + 1) r

def cutL (l : List UInt8) : List Wd := toksL l.length 0 l

/-- The words of a text. -/
def wordsL (l : List UInt8) : List Wd := if errL 0 (cutL l) = 0 then cutL l else []
theorem leadL_len (lo hi : Int) (l : List UInt8) : (leadL lo hi l).length ≤ l.length := (List.takeWhile_prefix _).length_le
theorem leadL_pos {lo hi : Int} {c : UInt8} {r : List UInt8} (h : inB lo hi c.toNat = true) : 1 ≤ (leadL lo hi (c :: r)).length := by simp [leadL, h]
theorem leadL_take (lo hi : Int) (l : List UInt8) : leadL lo hi l = l.take (leadL lo hi l).length := List.prefix_iff_eq_take.1 (List.takeWhile_prefix _)
theorem leadL_eq (lo hi : Int) (l : List UInt8) (k : Nat) (hk : k ≤ l.length) (hall : ∀ j (h : j < k), inB lo hi (l[j]'(by omega)).toNat = true) (hend : ∀ h : k < l.length, inB lo hi l[k].toNat = false) : leadL lo hi l = l.take k := by
  induction l generalizing k with
  | nil => simp [leadL]
  | cons c r ih =>
    cases k with
    | zero => have := hend (by simp); simp at this; simp [leadL, this]
    | succ k =>
      have h0 := hall 0 (by omega)
      simp at h0
      have := ih k (by simpa using hk) (fun j h => by simpa using hall (j + 1) (by omega)) (fun h => by have := hend (by simpa using h); rwa [List.getElem_cons_succ] at this)
      simp [leadL, h0] at this ⊢
      exact this

theorem endL_bounds (l : List UInt8) : ∀ n, endL l = some n → 1 ≤ n ∧ n ≤ l.length := by
  induction l using endL.induct with
  | case1 => simp [endL]
  | case2 c r h => intro n hn; rw [endL.eq_def] at hn; simp only [h, if_true, Option.some.injEq] at hn; simp; omega
  | case3 c h1 h2 => intro n hn; simp [endL, h2] at hn
  | case4 c h1 h2 d r' h3 ih =>
    intro n hn
    simp only [endL, h2, h3, if_true, Nat.reduceEqDiff, if_false] at hn
    obtain ⟨m, hm, rfl⟩ := Option.map_eq_some_iff.1 hn
    have := ih m hm
    simp; omega
  | case5 c h1 h2 d r' h3 => intro n hn; simp [endL, h2, h3] at hn
  | case6 c r h1 h2 h3 ih =>
    intro n hn
    rw [endL.eq_def] at hn; simp only [h1, h2, h3, if_true, if_false] at hn
    obtain ⟨m, hm, rfl⟩ := Option.map_eq_some_iff.1 hn
    have := ih m hm
    simp; omega
  | case7 c r h1 h2 h3 => intro n hn; rw [endL.eq_def] at hn; simp [h1, h2, h3] at hn

/-- What stands between quotes is in order: each byte can be seen, and quotes and backslashes stand behind a backslash. -/
def wellB : List UInt8 → Bool
  | [] => true
  | c :: r =>
    if c.toNat = 34 then false
    else if c.toNat = 92 then
      match r with
      | [] => false
      | d :: r' => (decide (d.toNat = 34) || decide (d.toNat = 92)) && wellB r'
    else inB 32 126 c.toNat && wellB r

theorem endL_well (l : List UInt8) : ∀ n, endL l = some n → wellB (l.take (n - 1)) = true := by
  induction l using endL.induct with
  | case1 => simp [endL]
  | case2 c r h => intro n hn; rw [endL.eq_def] at hn; simp only [h, if_true, Option.some.injEq] at hn; subst hn; rfl
  | case3 c h1 h2 => intro n hn; simp [endL, h2] at hn
  | case4 c h1 h2 d r' h3 ih =>
    intro n hn
    simp only [endL, h2, h3, if_true, Nat.reduceEqDiff, if_false] at hn
    obtain ⟨m, hm, rfl⟩ := Option.map_eq_some_iff.1 hn
    have hb := (endL_bounds r' m hm).1
    have := ih m hm
    rw [show m + 2 - 1 = (m - 1) + 2 by omega]
    simp only [List.take_succ_cons, wellB, h2, if_true, Nat.reduceEqDiff, if_false, this, Bool.and_true]
    simpa using h3
  | case5 c h1 h2 d r' h3 => intro n hn; simp [endL, h2, h3] at hn
  | case6 c r h1 h2 h3 ih =>
    intro n hn
    rw [endL.eq_def] at hn; simp only [h1, h2, h3, if_true, if_false] at hn
    obtain ⟨m, hm, rfl⟩ := Option.map_eq_some_iff.1 hn
    have hb := (endL_bounds r m hm).1
    have := ih m hm
    rw [show m + 1 - 1 = (m - 1) + 1 by omega]
    rw [List.take_succ_cons, wellB.eq_def]; simp only [h1, h2, h3, if_false, this, Bool.and_true]
  | case7 c r h1 h2 h3 => intro n hn; rw [endL.eq_def] at hn; simp [h1, h2, h3] at hn

theorem bareL_seen (l : List UInt8) : wellB l = true → ∀ c ∈ bareL l, inB 32 126 c.toNat = true := by
  induction l using wellB.induct with
  | case1 => simp [bareL]
  | case2 c r h => intro hw; rw [wellB.eq_def] at hw; simp [h] at hw
  | case3 c h1 h2 => intro hw; simp [wellB, h2] at hw
  | case4 c h1 h2 d r' ih =>
    intro hw
    simp only [wellB, h2, if_true, Nat.reduceEqDiff, if_false, Bool.and_eq_true, Bool.or_eq_true, decide_eq_true_eq] at hw
    intro x hx
    simp only [bareL, h2, if_true, List.mem_cons] at hx
    rcases hx with rfl | hx
    · rcases hw.1 with h | h <;> simp [inB, h]
    · exact ih hw.2 x hx
  | case5 c r h1 h2 ih =>
    intro hw
    rw [wellB.eq_def] at hw; simp only [h1, h2, if_false, Bool.and_eq_true] at hw
    intro x hx
    rw [bareL.eq_def] at hx; simp only [h2, if_false, List.mem_cons] at hx
    rcases hx with rfl | hx
    · exact hw.1
    · exact ih hw.2 x hx

theorem bareL_len (l : List UInt8) : (bareL l).length ≤ l.length := by
  induction l using bareL.induct with
  | case1 => simp [bareL]
  | case2 c h => simp [bareL, h]
  | case3 c h d r ih => simp [bareL, h]; omega
  | case4 c r h ih => rw [bareL.eq_def]; simp [h]; exact ih

theorem signsL_pos : ∀ t ∈ signsL, 1 ≤ t.length := by decide

/-- A word takes up some bytes, and no more than there are. -/
theorem firstW_len {l : List UInt8} {k : Int} {t : List UInt8} {n : Int} {len : Nat} (h : firstW l = .word k t n len) : 1 ≤ len ∧ len ≤ l.length := by
  cases l with
  | nil => simp [firstW] at h
  | cons c r =>
    unfold firstW at h
    simp only at h
    split at h
    · rename_i hc
      unfold nameW at h
      split at h
      · cases h; exact ⟨leadL_pos hc, leadL_len _ _ _⟩
      · cases h
    split at h
    · rename_i hc
      unfold greatW at h
      split at h
      · cases h; exact ⟨leadL_pos hc, leadL_len _ _ _⟩
      · cases h
    split at h
    · rename_i hn
      unfold numW at h
      split at h
      · cases h
        unfold numLen minusL
        unfold isNumL at hn
        by_cases hm : c = 45
        · subst hm
          simp at hn ⊢
          have := leadL_len 48 57 r
          omega
        · simp [hm] at hn ⊢
          exact ⟨leadL_pos hn, leadL_len _ _ _⟩
      · cases h
    split at h
    · unfold textW at h
      split at h
      · cases h
      · rename_i n hn
        split at h
        · cases h
          have := endL_bounds _ _ hn
          simp at this ⊢; omega
        · cases h
    · unfold signW at h
      split at h
      · rename_i t hf
        cases h
        have h1 := List.find?_some hf
        have h2 := List.mem_of_find?_eq_some hf
        exact ⟨signsL_pos _ h2, (List.isPrefixOf_iff_prefix.1 h1).length_le⟩
      · cases h
theorem firstW_bad {l : List UInt8} {e : Int} (h : firstW l = .bad e) : e = 12 ∨ e = 21 := by
  cases l with
  | nil => simp [firstW] at h; omega
  | cons c r =>
    unfold firstW nameW greatW numW textW signW at h
    simp only at h
    (repeat' split at h) <;> cases h <;> simp
theorem toksL_fuel : ∀ (f : Nat) (at_ : Nat) (l : List UInt8), l.length ≤ f → toksL f at_ l = toksL l.length at_ l
  | 0, at_, l, h => by cases l with | nil => rfl | cons c r => simp at h
  | f + 1, at_, l, h => by
    cases l with
    | nil => rfl
    | cons c r =>
      have hr : r.length ≤ f := by simpa using h
      simp only [toksL, List.length_cons]
      split
      · exact toksL_fuel f (at_ + 1) r hr
      · split
        · rfl
        · rename_i k t n len hw
          have hl := firstW_len hw
          have hd : ((c :: r).drop len).length ≤ r.length := by simp at hl ⊢; omega
          rw [toksL_fuel f _ _ (Nat.le_trans hd hr), toksL_fuel r.length _ _ hd]
termination_by f => f

/-- What the rest of a text gives, from its place on. -/
def restL (at_ : Nat) (l : List UInt8) : List Wd := toksL l.length at_ l

theorem restL_nil (at_ : Nat) : restL at_ [] = [] := rfl
theorem restL_blank (at_ : Nat) {c : UInt8} (r : List UInt8) (h : c.toNat = 32) : restL at_ (c :: r) = restL (at_ + 1) r := by simp [restL, toksL, h]
theorem restL_bad (at_ : Nat) {c : UInt8} {r : List UInt8} (h : c.toNat ≠ 32) {e : Int} (hw : firstW (c :: r) = .bad e) : restL at_ (c :: r) = [.bad e] := by simp [restL, toksL, h, hw]
theorem restL_word (at_ : Nat) {c : UInt8} {r : List UInt8} (h : c.toNat ≠ 32) {k : Int} {t : List UInt8} {n : Int} {len : Nat} (hw : firstW (c :: r) = .word k t n len) :
    restL at_ (c :: r) = .word k t n at_ :: restL (at_ + len) ((c :: r).drop len) := by
  have hl := firstW_len hw
  have hd : ((c :: r).drop len).length ≤ r.length := by simp at hl ⊢; omega
  simp only [restL, toksL, List.length_cons, h, if_false, hw]
  rw [toksL_fuel _ _ _ hd]

def isWord : Wd → Bool
  | .word .. => true
  | .bad _ => false

theorem errL_append : ∀ (pre : List Wd) (k : Nat) (r : List Wd), (∀ x ∈ pre, isWord x = true) → k + pre.length ≤ 500 → errL k (pre ++ r) = errL (k + pre.length) r
  | [], k, r, _, _ => by simp
  | x :: pre, k, r, hp, hk => by
    have hx := hp x (by simp)
    cases x with
    | bad e => cases hx
    | word a t n at_ =>
      simp only [List.cons_append, errL, List.length_cons] at hk ⊢
      rw [if_neg (by omega), errL_append pre (k + 1) r (fun y hy => hp y (by simp [hy])) (by omega)]
      congr 1; omega
theorem errL_all (pre : List Wd) (hp : ∀ x ∈ pre, isWord x = true) (hl : pre.length ≤ 500) : errL 0 pre = 0 := by
  have := errL_append pre 0 [] hp (by omega)
  simpa [errL] using this

theorem restL_words_len (f : Nat) : ∀ (at_ : Nat) (l : List UInt8), (toksL f at_ l).length ≤ f := by
  induction f with
  | zero => intro at_ l; exact Nat.le_refl _
  | succ f ih =>
    intro at_ l
    cases l with
    | nil => simp [toksL]
    | cons c r =>
      simp only [toksL]
      split
      · exact Nat.le_succ_of_le (ih _ _)
      · split
        · simp
        · simpa using ih _ _
theorem cutL_length (l : List UInt8) : (cutL l).length ≤ l.length := restL_words_len _ _ _
def known1 : List UInt8 := [97, 46, 120, 32, 60, 61, 32, 45, 53, 32, 34, 113, 92, 34, 34, 32, 84, 82, 85, 69]
theorem known1_cut : cutL known1 = [.word 1 [97] 0 0, .word 5 [46] 0 1, .word 1 [120] 0 2, .word 5 [60, 61] 0 4, .word 2 [] (-5) 7, .word 3 [113, 34] 0 10, .word 4 [84, 82, 85, 69] 0 16] := by decide +kernel
theorem known2_cut : errL 0 (cutL [97, 32, 35, 32, 98]) = 21 := by decide +kernel
theorem known3_cut : errL 0 (cutL [34, 120]) = 21 := by decide +kernel
theorem known4_cut : errL 0 (cutL [57, 57, 57, 57, 57, 57, 57, 57, 57, 57, 57, 57, 57, 57, 57, 57, 57, 57, 57, 57]) = 12 := by decide +kernel

/-- What WordSigns asks of one byte. -/
def signQ (b : UInt8) : Bool :=
  let l := wordsL [97, 32, b, 61, 32, 98]
  let e := errL 0 (cutL [97, 32, b, 61, 32, 98])
  if b.toNat = 33 ∨ b.toNat = 60 then e == 0 && l == [.word 1 [97] 0 0, .word 5 [b, 61] 0 2, .word 1 [98] 0 5]
  else if ([40, 41, 91, 93, 58, 124, 44, 43, 33, 46, 45, 42, 61, 60] : List Nat).contains b.toNat then e == 0 && l == [.word 1 [97] 0 0, .word 5 [b] 0 2, .word 5 [61] 0 3, .word 1 [98] 0 5]
  else if b.toNat = 32 ∨ inB 48 57 b.toNat ∨ inB 97 122 b.toNat ∨ inB 65 90 b.toNat then e == 0 && ((l.length == 4) == (b.toNat != 32))
  else e == 21 && l.isEmpty
theorem signQ_all : ∀ n : Fin 256, signQ (UInt8.ofNat n.val) = true := by decide +kernel

end Go.Proofs.YtmhpakhnclkenaaGreatDoor
