/-
  The words of a text as plain lists: what package word's Cut tells, reckoned without memory.
  Numbers written in decimal, as plain lists: what is cut of them.
  What package parse's reader does with a text's words, as plain functions.
  A text that is written of words: what is cut of it are these words.
  What package parse reads of a text that is written of words: these words.
  A condition's text is written of words, and the reader gives the condition back.
  A condition's text is written of words: which, and that each is ended by what follows.
  The reader gives a condition back that is written of words.
  A pattern's text is written of words.
  The reader gives back what is shown: conditions, patterns.
  Unlike conditions, unlike patterns have unlike texts: because a text that is shown is read back.
-/
import Derived.Test.YtfofpenajkaalaaDoorVal
import Derived.Lib.ParseIntB
import Derived.Test.YtfofpenajkaalaaDoorNumP
import Derived.Test.YtfofpenajkaalaaDoorPat
import Derived.Test.YtfofpenajkaalaaDoorShowV
import Derived.Lib.TrimByte
import Derived.Test.YtfofpenajkaalaaDoorShowX
import Derived.Test.YtfofpenajkaalaaDoorFaces
import Derived.Test.YtfofpenajkaalaaDoorSameP
namespace Go.Proofs.YtfofpenajkaalaaDoor
open Go.RowKit

/-- A word, or what is wrong in place of one: its kind, text, number, and how many bytes it takes up. -/
inductive Wd where
  | word (k : Int) (t : List UInt8) (n : Int) (len : Nat)
  | bad (e : Int)
  deriving DecidableEq

/-- The bytes from lo to hi that l begins with. -/
def leadL (lo hi : Int) (l : List UInt8) : List UInt8 := l.takeWhile fun c => inB lo hi c.toNat

/-- How many bytes up to the quote that ends a text. -/
def endL : List UInt8 → Option Nat
  | [] => none
  | c :: r =>
    if c.toNat = 34 then some 1
    else if c.toNat = 92 then
      match r with
      | [] => none
      | d :: r' => if d.toNat = 34 ∨ d.toNat = 92 then (endL r').map (· + 2) else none
    else if inB 32 126 c.toNat then (endL r).map (· + 1) else none

/-- What stands between the quotes. -/
def bareL : List UInt8 → List UInt8
  | [] => []
  | c :: r =>
    if c.toNat = 92 then
      match r with
      | [] => []
      | d :: r' => d :: bareL r'
    else c :: bareL r

def wSigns : List (List UInt8) := [[33, 61], [60, 61], [40], [41], [91], [93], [58], [124], [44], [43], [33], [46], [45], [42], [61], [60]]

def nameW (l : List UInt8) : Wd := if (leadL 97 122 l).length ≤ 8 then .word 1 (leadL 97 122 l) 0 (leadL 97 122 l).length else .bad 12
def greatW (l : List UInt8) : Wd := if (leadL 65 90 l).length ≤ 8 then .word 4 (leadL 65 90 l) 0 (leadL 65 90 l).length else .bad 12
def isNumL (l : List UInt8) : Bool := match (if l.head? = some 45 then l.tail else l) with | [] => false | c :: _ => inB 48 57 c.toNat
def minusL (l : List UInt8) : Nat := if l.head? = some 45 then 1 else 0
def numLen (l : List UInt8) : Nat := minusL l + (leadL 48 57 (l.drop (minusL l))).length
def numW (l : List UInt8) : Wd := match Lib.parseIntB 64 (l.take (numLen l)) with | .ok v => .word 2 [] v (numLen l) | _ => .bad 12
def textW (l : List UInt8) : Wd := match endL (l.drop 1) with
  | none => .bad 21
  | some n => if (bareL ((l.drop 1).take (n - 1))).length ≤ 16 then .word 3 (bareL ((l.drop 1).take (n - 1))) 0 (n + 1) else .bad 12
def signW (l : List UInt8) : Wd := match wSigns.find? (fun t => t.isPrefixOf l) with | some t => .word 5 t 0 t.length | none => .bad 21

def firstW (l : List UInt8) : Wd :=
  match l with
  | [] => .bad 21
  | c :: _ =>
    if inB 97 122 c.toNat then nameW l
    else if inB 65 90 c.toNat then greatW l
    else if isNumL l then numW l
    else if c.toNat = 34 then textW l
    else signW l

/-- What a text gives from a place on: its words, or what is wrong behind them. In 'word' the last cell is the place. -/
def toksL : Nat → Nat → List UInt8 → List Wd
  | 0, _, _ => []
  | f + 1, at_, l => match l with
    | [] => []
    | c :: r =>
      if c.toNat = 32 then toksL f (at_ + 1) r
      else match firstW l with
        | .bad e => [.bad e]
        | .word k t n len => .word k t n at_ :: toksL f (at_ + len) (l.drop len)

/-- What is wrong, if anything is, k words ahead. -/
def errL : Nat → List Wd → Int
  | _, [] => 0
  | _, .bad e :: _ => e
  | k, .word .. :: r => if k = 500 then 12 else errL (k + 1) r

def cutL (l : List UInt8) : List Wd := toksL l.length 0 l

/-- The words of a text. -/
def wordsL (l : List UInt8) : List Wd := if errL 0 (cutL l) = 0 then cutL l else []
theorem leadL_len (lo hi : Int) (l : List UInt8) : (leadL lo hi l).length ≤ l.length := (List.takeWhile_prefix _).length_le
theorem leadL_pos {lo hi : Int} {c : UInt8} {r : List UInt8} (h : inB lo hi c.toNat = true) : 1 ≤ (leadL lo hi (c :: r)).length := by simp [leadL, h]
theorem leadL_take (lo hi : Int) (l : List UInt8) : leadL lo hi l = l.take (leadL lo hi l).length := List.prefix_iff_eq_take.1 (List.takeWhile_prefix _)
theorem leadL_eq (lo hi : Int) (l : List UInt8) (k : Nat) (hk : k ≤ l.length) (hall : ∀ j (h : j < k), inB lo hi (l[j]'(by omega)).toNat = true) (hend : ∀ h : k < l.length, inB lo hi l[k].toNat = false) : leadL lo hi l = l.take k := by
  induction l generalizing k with
  | nil => simp [leadL]
  | cons c r ih =>
    cases k with
    | zero => have := hend (by simp); simp at this; simp [leadL, this]
    | succ k =>
      have h0 := hall 0 (by omega)
      simp at h0
      have := ih k (by simpa using hk) (fun j h => by simpa using hall (j + 1) (by omega)) (fun h => by have := hend (by simpa using h); rwa [List.getElem_cons_succ] at this)
      simp [leadL, h0] at this ⊢
      exact this

theorem endL_bounds (l : List UInt8) : ∀ n, endL l = some n → 1 ≤ n ∧ n ≤ l.length := by
  induction l using endL.induct with
  | case1 => simp [endL]
  | case2 c r h => intro n hn; rw [endL.eq_def] at hn; simp only [h, if_true, Option.some.injEq] at hn; simp; omega
  | case3 c h1 h2 => intro n hn; simp [endL, h2] at hn
  | case4 c h1 h2 d r' h3 ih =>
    intro n hn
    simp only [endL, h2, h3, if_true, Nat.reduceEqDiff, if_false] at hn
    obtain ⟨m, hm, rfl⟩ := Option.map_eq_some_iff.1 hn
    have := ih m hm
    simp; omega
  | case5 c h1 h2 d r' h3 => intro n hn; simp [endL, h2, h3] at hn
  | case6 c r h1 h2 h3 ih =>
    intro n hn
    rw [endL.eq_def] at hn; simp only [h1, h2, h3, if_true, if_false] at hn
    obtain ⟨m, hm, rfl⟩ := Option.map_eq_some_iff.1 hn
    have := ih m hm
    simp; omega
  | case7 c r h1 h2 h3 => intro n hn; rw [endL.eq_def] at hn; simp [h1, h2, h3] at hn

/-- What stands between quotes is in order: each byte can be seen, and quotes and backslashes stand behind a backslash. -/
def wellB : List UInt8 → Bool
  | [] => true
  | c :: r =>
    if c.toNat = 34 then false
    else if c.toNat = 92 then
      match r with
      | [] => false
      | d :: r' => (decide (d.toNat = 34) || decide (d.toNat = 92)) && wellB r'
    else inB 32 126 c.toNat && wellB r

theorem endL_well (l : List UInt8) : ∀ n, endL l = some n → wellB (l.take (n - 1)) = true := by
  induction l using endL.induct with
  | case1 => simp [endL]
  | case2 c r h => intro n hn; rw [endL.eq_def] at hn; simp only [h, if_true, Option.some.injEq] at hn; subst hn; rfl
  | case3 c h1 h2 => intro n hn; simp [endL, h2] at hn
  | case4 c h1 h2 d r' h3 ih =>
    intro n hn
    simp only [endL, h2, h3, if_true, Nat.reduceEqDiff, if_false] at hn
    obtain ⟨m, hm, rfl⟩ := Option.map_eq_some_iff.1 hn
    have hb := (endL_bounds r' m hm).1
    have := ih m hm
    rw [show m + 2 - 1 = (m - 1) + 2 by omega]
    simp only [List.take_succ_cons, wellB, h2, if_true, Nat.reduceEqDiff, if_false, this, Bool.and_true]
    simpa using h3
  | case5 c h1 h2 d r' h3 => intro n hn; simp [endL, h2, h3] at hn
  | case6 c r h1 h2 h3 ih =>
    intro n hn
    rw [endL.eq_def] at hn; simp only [h1, h2, h3, if_true, if_false] at hn
    obtain ⟨m, hm, rfl⟩ := Option.map_eq_some_iff.1 hn
    have hb := (endL_bounds r m hm).1
    have := ih m hm
    rw [show m + 1 - 1 = (m - 1) + 1 by omega]
    rw [List.take_succ_cons, wellB.eq_def]; simp only [h1, h2, h3, if_false, this, Bool.and_true]
  | case7 c r h1 h2 h3 => intro n hn; rw [endL.eq_def] at hn; simp [h1, h2, h3] at hn

theorem bareL_seen (l : List UInt8) : wellB l = true → ∀ c ∈ bareL l, inB 32 126 c.toNat = true := by
  induction l using wellB.induct with
  | case1 => simp [bareL]
  | case2 c r h => intro hw; rw [wellB.eq_def] at hw; simp [h] at hw
  | case3 c h1 h2 => intro hw; simp [wellB, h2] at hw
  | case4 c h1 h2 d r' ih =>
    intro hw
    simp only [wellB, h2, if_true, Nat.reduceEqDiff, if_false, Bool.and_eq_true, Bool.or_eq_true, decide_eq_true_eq] at hw
    intro x hx
    simp only [bareL, h2, if_true, List.mem_cons] at hx
    rcases hx with rfl | hx
    · rcases hw.1 with h | h <;> simp [inB, h]
    · exact ih hw.2 x hx
  | case5 c r h1 h2 ih =>
    intro hw
    rw [wellB.eq_def] at hw; simp only [h1, h2, if_false, Bool.and_eq_true] at hw
    intro x hx
    rw [bareL.eq_def] at hx; simp only [h2, if_false, List.mem_cons] at hx
    rcases hx with rfl | hx
    · exact hw.1
    · exact ih hw.2 x hx

theorem bareL_len (l : List UInt8) : (bareL l).length ≤ l.length := by
  induction l using bareL.induct with
  | case1 => simp [bareL]
  | case2 c h => simp [bareL, h]
  | case3 c h d r ih => simp [bareL, h]; omega
  | case4 c r h ih => rw [bareL.eq_def]; simp [h]; exact ih

theorem signsL_pos : ∀ t ∈ wSigns, 1 ≤ t.length := by decide

/-- A word takes up some bytes, and no more than there are. -/
theorem firstW_len {l : List UInt8} {k : Int} {t : List UInt8} {n : Int} {len : Nat} (h : firstW l = .word k t n len) : 1 ≤ len ∧ len ≤ l.length := by
  cases l with
  | nil => simp [firstW] at h
  | cons c r =>
    unfold firstW at h
    simp only at h
    split at h
    · rename_i hc
      unfold nameW at h
      split at h
      · cases h; exact ⟨leadL_pos hc, leadL_len _ _ _⟩
      · cases h
    split at h
    · rename_i hc
      unfold greatW at h
      split at h
      · cases h; exact ⟨leadL_pos hc, leadL_len _ _ _⟩
      · cases h
    split at h
    · rename_i hn
      unfold numW at h
      split at h
      · cases h
        unfold numLen minusL
        unfold isNumL at hn
        by_cases hm : c = 45
        · subst hm
          simp at hn ⊢
          have := leadL_len 48 57 r
          omega
        · simp [hm] at hn ⊢
          exact ⟨leadL_pos hn, leadL_len _ _ _⟩
      · cases h
    split at h
    · unfold textW at h
      split at h
      · cases h
      · rename_i n hn
        split at h
        · cases h
          have := endL_bounds _ _ hn
          simp at this ⊢; omega
        · cases h
    · unfold signW at h
      split at h
      · rename_i t hf
        cases h
        have h1 := List.find?_some hf
        have h2 := List.mem_of_find?_eq_some hf
        exact ⟨signsL_pos _ h2, (List.isPrefixOf_iff_prefix.1 h1).length_le⟩
      · cases h
theorem firstW_bad {l : List UInt8} {e : Int} (h : firstW l = .bad e) : e = 12 ∨ e = 21 := by
  cases l with
  | nil => simp [firstW] at h; omega
  | cons c r =>
    unfold firstW nameW greatW numW textW signW at h
    simp only at h
    (repeat' split at h) <;> cases h <;> simp
theorem toksL_fuel : ∀ (f : Nat) (at_ : Nat) (l : List UInt8), l.length ≤ f → toksL f at_ l = toksL l.length at_ l
  | 0, at_, l, h => by cases l with | nil => rfl | cons c r => simp at h
  | f + 1, at_, l, h => by
    cases l with
    | nil => rfl
    | cons c r =>
      have hr : r.length ≤ f := by simpa using h
      simp only [toksL, List.length_cons]
      split
      · exact toksL_fuel f (at_ + 1) r hr
      · split
        · rfl
        · rename_i k t n len hw
          have hl := firstW_len hw
          have hd : ((c :: r).drop len).length ≤ r.length := by simp at hl ⊢; omega
          rw [toksL_fuel f _ _ (Nat.le_trans hd hr), toksL_fuel r.length _ _ hd]
termination_by f => f

/-- What the rest of a text gives, from its place on. -/
def restL (at_ : Nat) (l : List UInt8) : List Wd := toksL l.length at_ l

theorem restL_nil (at_ : Nat) : restL at_ [] = [] := rfl
theorem restL_blank (at_ : Nat) {c : UInt8} (r : List UInt8) (h : c.toNat = 32) : restL at_ (c :: r) = restL (at_ + 1) r := by simp [restL, toksL, h]
theorem restL_bad (at_ : Nat) {c : UInt8} {r : List UInt8} (h : c.toNat ≠ 32) {e : Int} (hw : firstW (c :: r) = .bad e) : restL at_ (c :: r) = [.bad e] := by simp [restL, toksL, h, hw]
theorem restL_word (at_ : Nat) {c : UInt8} {r : List UInt8} (h : c.toNat ≠ 32) {k : Int} {t : List UInt8} {n : Int} {len : Nat} (hw : firstW (c :: r) = .word k t n len) :
    restL at_ (c :: r) = .word k t n at_ :: restL (at_ + len) ((c :: r).drop len) := by
  have hl := firstW_len hw
  have hd : ((c :: r).drop len).length ≤ r.length := by simp at hl ⊢; omega
  simp only [restL, toksL, List.length_cons, h, if_false, hw]
  rw [toksL_fuel _ _ _ hd]

def isWord : Wd → Bool
  | .word .. => true
  | .bad _ => false

theorem errL_append : ∀ (pre : List Wd) (k : Nat) (r : List Wd), (∀ x ∈ pre, isWord x = true) → k + pre.length ≤ 500 → errL k (pre ++ r) = errL (k + pre.length) r
  | [], k, r, _, _ => by simp
  | x :: pre, k, r, hp, hk => by
    have hx := hp x (by simp)
    cases x with
    | bad e => cases hx
    | word a t n at_ =>
      simp only [List.cons_append, errL, List.length_cons] at hk ⊢
      rw [if_neg (by omega), errL_append pre (k + 1) r (fun y hy => hp y (by simp [hy])) (by omega)]
      congr 1; omega
theorem errL_all (pre : List Wd) (hp : ∀ x ∈ pre, isWord x = true) (hl : pre.length ≤ 500) : errL 0 pre = 0 := by
  have := errL_append pre 0 [] hp (by omega)
  simpa [errL] using this

theorem restL_words_len (f : Nat) : ∀ (at_ : Nat) (l : List UInt8), (toksL f at_ l).length ≤ f := by
  induction f with
  | zero => intro at_ l; exact Nat.le_refl _
  | succ f ih =>
    intro at_ l
    cases l with
    | nil => simp [toksL]
    | cons c r =>
      simp only [toksL]
      split
      · exact Nat.le_succ_of_le (ih _ _)
      · split
        · simp
        · simpa using ih _ _
theorem cutL_length (l : List UInt8) : (cutL l).length ≤ l.length := restL_words_len _ _ _
def known1 : List UInt8 := [97, 46, 120, 32, 60, 61, 32, 45, 53, 32, 34, 113, 92, 34, 34, 32, 84, 82, 85, 69]
theorem known1_cut : cutL known1 = [.word 1 [97] 0 0, .word 5 [46] 0 1, .word 1 [120] 0 2, .word 5 [60, 61] 0 4, .word 2 [] (-5) 7, .word 3 [113, 34] 0 10, .word 4 [84, 82, 85, 69] 0 16] := by decide +kernel
theorem known2_cut : errL 0 (cutL [97, 32, 35, 32, 98]) = 21 := by decide +kernel
theorem known3_cut : errL 0 (cutL [34, 120]) = 21 := by decide +kernel
theorem known4_cut : errL 0 (cutL [57, 57, 57, 57, 57, 57, 57, 57, 57, 57, 57, 57, 57, 57, 57, 57, 57, 57, 57, 57]) = 12 := by decide +kernel

/-- What WordSigns asks of one byte. -/
def signQ (b : UInt8) : Bool :=
  let l := wordsL [97, 32, b, 61, 32, 98]
  let e := errL 0 (cutL [97, 32, b, 61, 32, 98])
  if b.toNat = 33 ∨ b.toNat = 60 then e == 0 && l == [.word 1 [97] 0 0, .word 5 [b, 61] 0 2, .word 1 [98] 0 5]
  else if ([40, 41, 91, 93, 58, 124, 44, 43, 33, 46, 45, 42, 61, 60] : List Nat).contains b.toNat then e == 0 && l == [.word 1 [97] 0 0, .word 5 [b] 0 2, .word 5 [61] 0 3, .word 1 [98] 0 5]
  else if b.toNat = 32 ∨ inB 48 57 b.toNat ∨ inB 97 122 b.toNat ∨ inB 65 90 b.toNat then e == 0 && ((l.length == 4) == (b.toNat != 32))
  else e == 21 && l.isEmpty
theorem signQ_all : ∀ n : Fin 256, signQ (UInt8.ofNat n.val) = true := by decide +kernel


theorem leadL_whole {lo hi : Int} {l : List UInt8} (h : allB lo hi l = true) : leadL lo hi l = l := by
  induction l with
  | nil => rfl
  | cons c r ih =>
    simp only [allB, List.all_cons, Bool.and_eq_true] at h
    simp only [leadL, List.takeWhile_cons, h.1, if_true]
    exact congrArg _ (ih h.2)

theorem num_take (l : List UInt8) : l.take (numLen l) = (if l.head? = some 45 then [45] else []) ++ leadL 48 57 (l.drop (minusL l)) := by
  unfold numLen minusL
  cases l with
  | nil => rfl
  | cons c r =>
    by_cases h : c = 45
    · subst h
      simp only [List.head?_cons, if_true, List.drop_succ_cons, List.drop_zero, Nat.add_comm 1, List.take_succ_cons, List.cons_append, List.nil_append]
      rw [← leadL_take]
    · have h' : ¬ (c :: r).head? = some 45 := by simpa using h
      simp only [h', if_false, List.drop_zero, Nat.zero_add, List.nil_append]
      rw [← leadL_take]

theorem firstW_num (l : List UInt8) (c : UInt8) (hc : l.head? = some c) (h : inB 97 122 c.toNat = false) (h2 : inB 65 90 c.toNat = false) (h3 : isNumL l = true) : firstW l = numW l := by
  cases l with
  | nil => cases hc
  | cons d r => cases hc; simp [firstW, h, h2, h3]

theorem firstW_text (l : List UInt8) (c : UInt8) (hc : l.head? = some c) (h : inB 97 122 c.toNat = false) (h2 : inB 65 90 c.toNat = false) (h3 : isNumL l = false) (h4 : c.toNat = 34) : firstW l = textW l := by
  cases l with
  | nil => cases hc
  | cons d r => cases hc; show (if inB 97 122 c.toNat = true then nameW (c :: r) else if inB 65 90 c.toNat = true then greatW (c :: r) else if isNumL (c :: r) = true then numW (c :: r) else if c.toNat = 34 then textW (c :: r) else signW (c :: r)) = _; rw [if_neg (by rw [h]; decide), if_neg (by rw [h2]; decide), if_neg (by rw [h3]; decide), if_pos h4]

theorem firstW_sign (l : List UInt8) (c : UInt8) (hc : l.head? = some c) (h : inB 97 122 c.toNat = false) (h2 : inB 65 90 c.toNat = false) (h3 : isNumL l = false) (h4 : ¬ c.toNat = 34) : firstW l = signW l := by
  cases l with
  | nil => cases hc
  | cons d r => cases hc; simp [firstW, h, h2, h3, h4]

end Go.Proofs.YtfofpenajkaalaaDoor

namespace Go.Proofs.YtfofpenajkaalaaDoor
open Go.RowKit Go.Shelf

theorem digC_val (d : Nat) (h : d < 10) : (digC d).toNat = 48 + d := by rw [digC, UInt8.toNat_ofNat']; omega
/-- What digits spell, behind what was spelled. -/
def valL (acc : Nat) (l : List UInt8) : Nat := l.foldl (fun a c => a * 10 + (c.toNat - 48)) acc
theorem valL_append (acc : Nat) (a b : List UInt8) : valL acc (a ++ b) = valL (valL acc a) b := List.foldl_append ..
theorem valL_ge (l : List UInt8) : ∀ acc, acc ≤ valL acc l := by
  induction l with
  | nil => intro acc; exact Nat.le_refl _
  | cons c r ih =>
    intro acc
    refine Nat.le_trans ?_ (ih (acc * 10 + (c.toNat - 48)))
    omega
theorem natL_digits (n : Nat) : allB 48 57 (natL n) = true := by
  induction n using natL.induct with
  | case1 n h => rw [natL_small h]; simp [allB, inB, digC_val n h]; omega
  | case2 n h ih =>
    rw [natL_big h, allB, List.all_append]
    rw [allB] at ih
    rw [ih]
    have := digC_val (n % 10) (Nat.mod_lt _ (by decide))
    simp [inB, this]; omega
theorem natL_val (n : Nat) : valL 0 (natL n) = n := by
  induction n using natL.induct with
  | case1 n h => rw [natL_small h]; simp [valL, digC_val n h]
  | case2 n h ih =>
    rw [natL_big h, valL_append, ih]
    have := digC_val (n % 10) (Nat.mod_lt _ (by decide))
    simp [valL, this]; omega
theorem natL_ne (n : Nat) : natL n ≠ [] := by
  by_cases h : n < 10
  · rw [natL_small h]; simp
  · rw [natL_big h]; simp

theorem parseM_ok : ∀ (l : List UInt8) (acc : Nat), allB 48 57 l = true → valL acc l ≤ 9223372036854775808 → Lib.parseUintM (2 ^ 64 - 1) acc l = .ok (valL acc l)
  | [], _, _, _ => rfl
  | c :: r, acc, h, hv => by
    simp only [allB, List.all_cons, Bool.and_eq_true] at h
    have hc : 48 ≤ c.toNat ∧ c.toNat ≤ 57 := by have := h.1; simp [inB] at this; omega
    have he : valL acc (c :: r) = valL (acc * 10 + (c.toNat - 48)) r := rfl
    have hg := valL_ge r (acc * 10 + (c.toNat - 48))
    rw [he] at hv ⊢
    rw [Lib.parseUintM, if_pos hc, if_neg (by omega), if_neg (by omega)]
    exact parseM_ok r _ h.2 hv
theorem parseB_nat (n : Nat) (hn : n ≤ 9223372036854775808) : Lib.parseUintB 64 (natL n) = .ok n := by
  rw [Lib.parseUintB, if_neg (natL_ne n), parseM_ok _ _ (natL_digits n) (by rw [natL_val]; exact hn), natL_val]
theorem digit_head {l : List UInt8} {c : UInt8} {r : List UInt8} (h : allB 48 57 l = true) (e : l = c :: r) : 48 ≤ c.toNat ∧ c.toNat ≤ 57 := by
  rw [e] at h
  simp only [allB, List.all_cons, Bool.and_eq_true] at h
  have := h.1
  simp [inB] at this; omega
theorem parseI_pos (n : Nat) (hn : n < 9223372036854775808) : Lib.parseIntB 64 (natL n) = .ok (n : Int) := by
  have hb := parseB_nat n (by omega)
  cases e : natL n with
  | nil => exact absurd e (natL_ne n)
  | cons c r =>
    have hc := digit_head (natL_digits n) e
    rw [e] at hb
    simp only [Lib.parseIntB]
    rw [if_neg (by omega), hb]
    simp only
    rw [if_neg (by omega), if_neg (by omega), if_neg (by omega)]
theorem parseI_neg (n : Nat) (hn : n ≤ 9223372036854775808) : Lib.parseIntB 64 (45 :: natL n) = .ok (-(n : Int)) := by
  have hb := parseB_nat n hn
  simp only [Lib.parseIntB]
  rw [if_pos (by decide), hb]
  simp only
  rw [if_neg (by simp), if_neg (by have : ¬ 2 ^ (64 - 1) < n := by omega
                                   simp; omega), if_pos (by decide)]

theorem leadL_nat (n : Nat) : leadL 48 57 (natL n) = natL n := leadL_whole (natL_digits n)
theorem firstW_pos (n : Nat) (hn : n < 9223372036854775808) : firstW (natL n) = .word 2 [] n (natL n).length := by
  cases e : natL n with
  | nil => exact absurd e (natL_ne n)
  | cons c r =>
    have hc := digit_head (natL_digits n) e
    have h45 : ¬ (c = 45) := by rintro rfl; revert hc; decide
    have h1 : inB 97 122 c.toNat = false := by simp [inB]; omega
    have h2 : inB 65 90 c.toNat = false := by simp [inB]; omega
    have h3 : isNumL (c :: r) = true := by simp [isNumL, h45, inB]; omega
    rw [firstW_num (c :: r) c rfl h1 h2 h3, numW, num_take]
    have hm : minusL (c :: r) = 0 := by simp [minusL, h45]
    have hl : leadL 48 57 (c :: r) = c :: r := by rw [← e]; exact leadL_nat n
    have hn2 : numLen (c :: r) = (c :: r).length := by rw [numLen, hm, List.drop_zero, hl]; simp
    rw [hm, List.drop_zero, hl, hn2]
    simp only [List.head?_cons, Option.some.injEq, h45, if_false, List.nil_append]
    rw [← e, parseI_pos n hn]
theorem firstW_neg (n : Nat) (hn : n ≤ 9223372036854775808) : firstW (45 :: natL n) = .word 2 [] (-(n : Int)) (natL n).length.succ := by
  have h1 : inB 97 122 (45 : UInt8).toNat = false := rfl
  have h2 : inB 65 90 (45 : UInt8).toNat = false := rfl
  have h3 : isNumL (45 :: natL n) = true := by
    cases e : natL n with
    | nil => exact absurd e (natL_ne n)
    | cons c r =>
      have hc := digit_head (natL_digits n) e
      simp [isNumL, inB]; omega
  rw [firstW_num _ 45 rfl h1 h2 h3, numW, num_take]
  have hm : minusL (45 :: natL n) = 1 := rfl
  have hn2 : numLen (45 :: natL n) = (natL n).length.succ := by rw [numLen, hm, List.drop_succ_cons, List.drop_zero, leadL_nat]; omega
  rw [hm, List.drop_succ_cons, List.drop_zero, leadL_nat, hn2]
  simp only [List.head?_cons, if_true, List.cons_append, List.nil_append]
  rw [parseI_neg n hn]
theorem cutL_dec (n : Int) (lo : -9223372036854775808 ≤ n) (hi : n ≤ 9223372036854775807) : cutL (decL n) = [.word 2 [] n 0] := by
  show restL 0 (decL n) = _
  unfold decL
  split
  · rename_i h
    have hf := firstW_neg n.natAbs (by omega)
    rw [restL_word 0 (by decide) hf, List.drop_eq_nil_of_le (by simp), restL_nil, show -(n.natAbs : Int) = n by omega]
  · rename_i h
    have hf := firstW_pos n.natAbs (by omega)
    have hd := natL_digits n.natAbs
    cases e : natL n.natAbs with
    | nil => exact absurd e (natL_ne _)
    | cons c r =>
      have hc := digit_head hd e
      rw [e] at hf
      rw [restL_word 0 (by omega) hf, List.drop_eq_nil_of_le (by simp), restL_nil, show (n.natAbs : Int) = n by omega]

theorem numK1 : errL 0 (cutL [57, 50, 50, 51, 51, 55, 50, 48, 51, 54, 56, 53, 52, 55, 55, 53, 56, 48, 56]) = 12 := by decide +kernel
theorem numK2 : errL 0 (cutL [45, 57, 50, 50, 51, 51, 55, 50, 48, 51, 54, 56, 53, 52, 55, 55, 53, 56, 48, 57]) = 12 := by decide +kernel
theorem numK3 : cutL [57, 50, 50, 51, 51, 55, 50, 48, 51, 54, 56, 53, 52, 55, 55, 53, 56, 48, 55] = [.word 2 [] 9223372036854775807 0] := by decide +kernel
theorem numK4 : cutL [45, 57, 50, 50, 51, 51, 55, 50, 48, 51, 54, 56, 53, 52, 55, 55, 53, 56, 48, 56] = [.word 2 [] (-9223372036854775808) 0] := by decide +kernel

end Go.Proofs.YtfofpenajkaalaaDoor

namespace Go.Proofs.YtfofpenajkaalaaDoor
open Go.RowKit Go.Shelf

/-- A word as the reader has it: its kind (0 where a number is not written as it must be), text, number, place. -/
structure Pw where
  k : Int
  t : Txt
  n : Int
  p : Int
abbrev txw (l : List UInt8) (h : l.length ≤ maxLen := by decide) : Txt := ⟨⟨l.toArray⟩, by show l.toArray.size ≤ maxLen; simpa using h⟩
abbrev Pw.cs (w : Pw) : Array Value := #[.int .i64 w.k, .string w.t.1, .int .i64 w.n, .int .i64 w.p]
abbrev Pw.v (w : Pw) : Value := .agg w.cs
def pw0 : Pw := ⟨0, ⟨⟨#[]⟩, by decide⟩, 0, 0⟩

/-- The reader: the words that are left, how many nodes there are, what is wrong. -/
structure Ps where
  rest : List Pw
  nd : Int
  er : Int
def Ps.fail (s : Ps) (e : Int) : Ps := ⟨[], s.nd, if s.er = 0 then e else s.er⟩
def Ps.head (s : Ps) : Pw := s.rest.head?.getD pw0
def Ps.tl (s : Ps) : Ps := ⟨s.rest.tail, s.nd, s.er⟩
def isW (w : Pw) (t : ByteArray) : Bool := (decide (w.k = 5) || decide (w.k = 4)) && (w.t.1.toList == t.toList)
def takeP (s : Ps) (k : Int) : Pw × Ps := if s.head.k = k then (s.head, s.tl) else (pw0, s.fail 10)
def eatP (s : Ps) (t : ByteArray) : Bool × Ps := if isW s.head t then (true, s.tl) else (false, s)
def must1 (s : Ps) (t : ByteArray) : Ps := if isW s.head t then s.tl else s.fail 10
def mustP (s : Ps) (l : List ByteArray) : Ps := l.foldl must1 s
def endP (s : Ps) : Ps := if s.rest.length = 0 then s else s.fail 10

abbrev oB : ByteArray := ⟨#[40]⟩
abbrev cB : ByteArray := ⟨#[41]⟩
abbrev doB : ByteArray := ⟨#[46]⟩
abbrev noB : ByteArray := ⟨#[78, 79, 84]⟩
abbrev trB : ByteArray := ⟨#[84, 82, 85, 69]⟩
abbrev faB : ByteArray := ⟨#[70, 65, 76, 83, 69]⟩
abbrev bgB : ByteArray := ⟨#[33]⟩
abbrev clnB : ByteArray := ⟨#[58]⟩
abbrev brB : ByteArray := ⟨#[124]⟩
abbrev psB : ByteArray := ⟨#[43]⟩
abbrev sqoB : ByteArray := ⟨#[91]⟩
abbrev sqcB : ByteArray := ⟨#[93]⟩
abbrev cmB : ByteArray := ⟨#[44]⟩
abbrev seB : ByteArray := ⟨#[83, 69, 81]⟩
abbrev withB : ByteArray := ⟨#[87, 73, 84, 72, 73, 78]⟩
abbrev byyB : ByteArray := ⟨#[66, 89]⟩
abbrev anB : ByteArray := ⟨#[65, 78, 89]⟩
/-- The signs between two kids. -/
def psigns : List ByteArray := [⟨#[43]⟩, ⟨#[45]⟩, ⟨#[42]⟩, ⟨#[61]⟩, ⟨#[33, 61]⟩, ⟨#[60]⟩, ⟨#[60, 61]⟩, ⟨#[65, 78, 68]⟩, ⟨#[79, 82]⟩]

abbrev t0 : Txt := ⟨⟨#[]⟩, by decide⟩
abbrev e0 : Tree := .mk d0 []
def litB (w : Pw) : Bool := decide (w.k = 2) || decide (w.k = 3) || isW w trB || isW w faB
/-- A word's value: kind, number, text. -/
def litV (w : Pw) : Int × Int × Txt :=
  if w.k = 2 then (1, w.n, t0) else if w.k = 3 then (2, 0, w.t) else if isW w trB then (3, 1, t0) else if isW w faB then (3, 0, t0) else (0, 0, t0)
def litD (w : Pw) : Dat := ⟨1, (litV w).1, (litV w).2.1, (litV w).2.2, t0, t0⟩
abbrev dOp (o : Int) : Dat := ⟨o, 0, 0, t0, t0, t0⟩
def fieldP (s : Ps) : Tree × Ps :=
  (.mk ⟨2, 0, 0, t0, (takeP s 1).1.t, (takeP (mustP (takeP s 1).2 [doB]) 1).1.t⟩ [], (takeP (mustP (takeP s 1).2 [doB]) 1).2)
def opF : List ByteArray → Int → Ps → Int × Ps
  | [], _, s => (0, s.fail 10)
  | t :: r, i, s => if isW s.head t then (i, s.tl) else opF r (i + 1) s
def opP (s : Ps) : Int × Ps := opF psigns 3 s

def nodeF : Nat → Int → Ps → Tree × Ps
  | 0, _, s => (e0, s)
  | f + 1, d, s =>
    if litB s.head = false ∧ s.head.k ≠ 1 ∧ isW s.head oB = false then (e0, s.fail 10)
    else if 5 < d ∨ 24 < s.nd + 1 then (e0, (Ps.mk s.rest (s.nd + 1) s.er).fail 12)
    else if litB s.head then (.mk (litD s.head) [], (takeP ⟨s.rest, s.nd + 1, s.er⟩ s.head.k).2)
    else if s.head.k = 1 then fieldP ⟨s.rest, s.nd + 1, s.er⟩
    else
      let s2 := mustP ⟨s.rest, s.nd + 1, s.er⟩ [oB]
      if isW s2.head noB then
        let r := nodeF f (d + 1) s2.tl
        (.mk (dOp 12) [r.1], mustP r.2 [cB])
      else
        let r := nodeF f (d + 1) s2
        let o := opP r.2
        let q := nodeF f (d + 1) o.2
        (.mk (dOp o.1) [r.1, q.1], mustP q.2 [cB])
def condF (s : Ps) : Tree × Ps := nodeF 6 1 ⟨s.rest, 0, s.er⟩

/-- A row of parts: what each is, as long as the sign stands between. -/
def partsF {α : Type} (p : Ps → α × Ps) (t : ByteArray) : Nat → Ps → List α × Ps
  | 0, s => ([], s)
  | f + 1, s =>
    if isW (p s).2.head t then ((p s).1 :: (partsF p t f (p s).2.tl).1, (partsF p t f (p s).2.tl).2) else ([(p s).1], (p s).2)
def partsP {α : Type} (p : Ps → α × Ps) (t : ByteArray) (s : Ps) : List α × Ps := partsF p t (s.rest.length + 1) s
def nameP (s : Ps) : Txt × Ps := ((takeP s 1).1.t, (takeP s 1).2)
def elemQ (s : Ps) : Em × Ps :=
  let b := eatP s bgB
  let a := nameP b.2
  let ts := partsP nameP brB (mustP a.2 [clnB])
  let p := eatP ts.2 psB
  let q := eatP p.2 sqoB
  if q.1 then (⟨a.1, ts.1, p.1, b.1, (condF q.2).1⟩, mustP (condF q.2).2 [sqcB]) else (⟨a.1, ts.1, p.1, b.1, e0⟩, q.2)
def patternQ (s : Ps) : Pt × Ps :=
  let es := partsP elemQ cmB (mustP s [seB, oB])
  let w := takeP (mustP es.2 [cB, withB]) 2
  let b := eatP w.2 byyB
  let nm := if b.1 then nameP b.2 else (t0, b.2)
  let a := eatP nm.2 anB
  (⟨es.1, w.1.n, nm.1, a.1⟩, a.2)
def exprF (s : Ps) : Tree × Int :=
  let c := condF s
  if (endP c.2).er = 0 then (c.1, 0) else (e0, (endP c.2).er)
abbrev q0 : Pt := ⟨[], 0, t0, false⟩
def lastP (b : Bool) (s : Ps) : Ps := if b then s else s.fail 10
def patF (s : Ps) : Pt × Int :=
  let p := patternQ s
  let z := lastP (patB p.1) (endP p.2)
  if z.er = 0 then (p.1, 0) else (q0, z.er)

/-! ### Words only go. -/
theorem Ps.fail_len (s : Ps) (e : Int) : (s.fail e).rest.length = 0 := rfl
theorem Ps.tl_len (s : Ps) : s.tl.rest.length ≤ s.rest.length := by simp [Ps.tl]
theorem takeP_len (s : Ps) (k : Int) : (takeP s k).2.rest.length ≤ s.rest.length := by
  unfold takeP; split
  · exact s.tl_len
  · simp [Ps.fail]
theorem eatP_len (s : Ps) (t : ByteArray) : (eatP s t).2.rest.length ≤ s.rest.length := by
  unfold eatP; split
  · exact s.tl_len
  · exact Nat.le_refl _
theorem must1_len (s : Ps) (t : ByteArray) : (must1 s t).rest.length ≤ s.rest.length := by
  unfold must1; split
  · exact s.tl_len
  · simp [Ps.fail]
theorem mustP_len (l : List ByteArray) : ∀ s : Ps, (mustP s l).rest.length ≤ s.rest.length := by
  induction l with
  | nil => intro s; exact Nat.le_refl _
  | cons t r ih => intro s; exact Nat.le_trans (ih (must1 s t)) (must1_len s t)
theorem fieldP_len (s : Ps) : (fieldP s).2.rest.length ≤ s.rest.length :=
  Nat.le_trans (takeP_len _ _) (Nat.le_trans (mustP_len _ _) (takeP_len _ _))
theorem opF_len : ∀ (l : List ByteArray) (i : Int) (s : Ps), (opF l i s).2.rest.length ≤ s.rest.length
  | [], _, s => by simp [opF, Ps.fail]
  | t :: r, i, s => by
    unfold opF; split
    · exact s.tl_len
    · exact opF_len r _ s
theorem nodeF_len : ∀ (f : Nat) (d : Int) (s : Ps), (nodeF f d s).2.rest.length ≤ s.rest.length
  | 0, _, s => Nat.le_refl _
  | f + 1, d, s => by
    unfold nodeF
    split
    · simp [Ps.fail]
    split
    · simp [Ps.fail]
    split
    · exact takeP_len ⟨s.rest, s.nd + 1, s.er⟩ _
    split
    · exact fieldP_len ⟨s.rest, s.nd + 1, s.er⟩
    have h2 := mustP_len [oB] ⟨s.rest, s.nd + 1, s.er⟩
    simp only at h2 ⊢
    generalize mustP ⟨s.rest, s.nd + 1, s.er⟩ [oB] = s2 at h2 ⊢
    split
    · exact Nat.le_trans (mustP_len _ _) (Nat.le_trans (nodeF_len f _ _) (Nat.le_trans s2.tl_len h2))
    · exact Nat.le_trans (mustP_len _ _) (Nat.le_trans (nodeF_len f _ _) (Nat.le_trans (opF_len _ _ _) (Nat.le_trans (nodeF_len f _ _) h2)))
theorem condF_len (s : Ps) : (condF s).2.rest.length ≤ s.rest.length := nodeF_len 6 1 ⟨s.rest, 0, s.er⟩
theorem isW_pos {s : Ps} {t : ByteArray} (h : isW s.head t = true) : s.tl.rest.length + 1 = s.rest.length := by
  cases hr : s.rest with
  | nil => simp [Ps.head, hr, isW, pw0] at h
  | cons w r => simp [Ps.tl, hr]
theorem partsF_more {α : Type} (p : Ps → α × Ps) (t : ByteArray) (hp : ∀ s, (p s).2.rest.length ≤ s.rest.length) : ∀ (f g : Nat) (s : Ps), s.rest.length < f → s.rest.length < g → partsF p t f s = partsF p t g s
  | 0, _, _, h, _ => by omega
  | _, 0, _, _, h => by omega
  | f + 1, g + 1, s, h1, h2 => by
    unfold partsF
    split
    · rename_i hw
      have h3 := isW_pos hw
      have h4 := hp s
      rw [partsF_more p t hp f g _ (by omega) (by omega)]
    · rfl
theorem partsP_eq {α : Type} (p : Ps → α × Ps) (t : ByteArray) (hp : ∀ s, (p s).2.rest.length ≤ s.rest.length) (s : Ps) :
    partsP p t s = if isW (p s).2.head t then ((p s).1 :: (partsP p t (p s).2.tl).1, (partsP p t (p s).2.tl).2) else ([(p s).1], (p s).2) := by
  show partsF p t (s.rest.length + 1) s = _
  unfold partsF
  split
  · rename_i hw
    have h3 := isW_pos hw
    have h4 := hp s
    unfold partsP
    rw [partsF_more p t hp s.rest.length ((p s).2.tl.rest.length + 1) _ (by omega) (by omega)]
  · rfl
theorem partsF_len {α : Type} (p : Ps → α × Ps) (t : ByteArray) (hp : ∀ s, (p s).2.rest.length ≤ s.rest.length) : ∀ (f : Nat) (s : Ps), (partsF p t f s).2.rest.length ≤ s.rest.length ∧ (partsF p t f s).1.length ≤ s.rest.length + 1
  | 0, s => ⟨Nat.le_refl _, by simp [partsF]⟩
  | f + 1, s => by
    have h4 := hp s
    unfold partsF
    split
    · rename_i hw
      have h3 := isW_pos hw
      have ih := partsF_len p t hp f (p s).2.tl
      refine ⟨by simp only; omega, by simp only [List.length_cons]; omega⟩
    · exact ⟨h4, by simp⟩
theorem nameP_len (s : Ps) : (nameP s).2.rest.length ≤ s.rest.length := takeP_len _ _
theorem elemQ_len (s : Ps) : (elemQ s).2.rest.length ≤ s.rest.length := by
  have h1 := eatP_len s bgB
  have h2 := nameP_len (eatP s bgB).2
  have h3 := mustP_len [clnB] (nameP (eatP s bgB).2).2
  have h4 := (partsF_len nameP brB nameP_len ((mustP (nameP (eatP s bgB).2).2 [clnB]).rest.length + 1) (mustP (nameP (eatP s bgB).2).2 [clnB])).1
  have h5 := eatP_len (partsP nameP brB (mustP (nameP (eatP s bgB).2).2 [clnB])).2 psB
  have h6 := eatP_len (eatP (partsP nameP brB (mustP (nameP (eatP s bgB).2).2 [clnB])).2 psB).2 sqoB
  change (partsP nameP brB (mustP (nameP (eatP s bgB).2).2 [clnB])).2.rest.length ≤ _ at h4
  unfold elemQ
  simp only
  split
  · exact Nat.le_trans (mustP_len _ _) (Nat.le_trans (condF_len _) (by omega))
  · simp only; omega

/-! ### Nodes are few. -/
theorem takeP_nd (s : Ps) (k : Int) : (takeP s k).2.nd = s.nd := by unfold takeP; split <;> rfl
theorem must1_nd (s : Ps) (t : ByteArray) : (must1 s t).nd = s.nd := by unfold must1; split <;> rfl
theorem opF_nd : ∀ (l : List ByteArray) (i : Int) (s : Ps), (opF l i s).2.nd = s.nd
  | [], _, s => rfl
  | t :: r, i, s => by
    unfold opF; split
    · rfl
    · exact opF_nd r _ s
theorem nodeF_nd : ∀ (f : Nat) (d : Int) (s : Ps), s.nd ≤ (nodeF f d s).2.nd ∧ (nodeF f d s).2.nd < s.nd + 2 ^ f
  | 0, _, s => ⟨Int.le_refl _, by simp only [nodeF, Int.pow_zero]; omega⟩
  | f + 1, d, s => by
    have hp : (2 : Int) ^ (f + 1) = 2 * 2 ^ f := by rw [Int.pow_succ, Int.mul_comm]
    have h1 : (1 : Int) ≤ 2 ^ f := Int.le_of_lt_add_one (by have := Int.pow_pos (n := 2) (m := f) (by decide); omega)
    unfold nodeF
    split
    · exact ⟨Int.le_refl _, by simp [Ps.fail]; omega⟩
    split
    · exact ⟨by simp [Ps.fail]; omega, by simp [Ps.fail]; omega⟩
    split
    · simp only [takeP_nd]; omega
    split
    · simp only [fieldP, mustP, List.foldl_cons, List.foldl_nil, takeP_nd, must1_nd]; omega
    have h2 : (mustP ⟨s.rest, s.nd + 1, s.er⟩ [oB]).nd = s.nd + 1 := must1_nd _ _
    simp only
    generalize mustP ⟨s.rest, s.nd + 1, s.er⟩ [oB] = s2 at h2 ⊢
    split
    · have ih := nodeF_nd f (d + 1) s2.tl
      have e1 : s2.tl.nd = s2.nd := rfl
      simp only [mustP, List.foldl_cons, List.foldl_nil, must1_nd]
      omega
    · have ih := nodeF_nd f (d + 1) s2
      have ih2 := nodeF_nd f (d + 1) (opP (nodeF f (d + 1) s2).2).2
      have e1 : (opP (nodeF f (d + 1) s2).2).2.nd = (nodeF f (d + 1) s2).2.nd := opF_nd _ _ _
      simp only [mustP, List.foldl_cons, List.foldl_nil, must1_nd]
      omega


/-- The bytes from a to b, without the blanks at their end. -/
def trm (s : ByteArray) (a b : Nat) : ByteArray := ⟨(Lib.trimRightB (s.extract a b).data.toList 32).toArray⟩

/-- A word of a text, as the reader has it. -/
def pwOf : Wd → Pw
  | .word k t n p => ⟨k, if h : t.length ≤ maxLen then ⟨⟨t.toArray⟩, by show t.toArray.size ≤ maxLen; simpa using h⟩ else ⟨⟨#[]⟩, by decide⟩, n, p⟩
  | .bad _ => pw0

def wordsP (s : ByteArray) : List Pw := (wordsL s.data.toList).map pwOf

/-- Where a word's bytes end: at the next word, or with the text. -/
def endP' (s : ByteArray) (i : Nat) : Nat := match (wordsP s)[i + 1]? with
  | some w => w.p.toNat
  | none => s.size

def pairsP (s : ByteArray) : List (Pw × ByteArray) := (wordsP s).mapIdx fun i w => (w, trm s w.p.toNat (endP' s i))

/-- A number that is not written as it must be is of no kind. -/
def fixW (x : Pw × ByteArray) : Pw := if (decide (x.1.k = 2) && !(x.2.toList == (valB 1 x.1.n ⟨#[]⟩).toList)) = true then { x.1 with k := 0 } else x.1

def readP (s : ByteArray) : Ps := ⟨(pairsP s).map fixW, 0, errL 0 (cutL s.data.toList)⟩

end Go.Proofs.YtfofpenajkaalaaDoor

namespace Go.Proofs.YtfofpenajkaalaaDoor
open Go.RowKit Go.Shelf

/-- A word to be written. -/
inductive Tk where
  | nm (t : Txt)
  | gr (t : Txt)
  | nu (n : Int)
  | st (t : Txt)
  | sg (t : Txt)
def bl8 (t : Txt) : List UInt8 := t.1.data.toList
def Tk.by : Tk → List UInt8
  | .nm t => bl8 t
  | .gr t => bl8 t
  | .nu n => decL n
  | .st t => 34 :: (flatB (escP (bl8 t)) ++ [34])
  | .sg t => bl8 t
def Tk.k : Tk → Int
  | .nm _ => 1
  | .gr _ => 4
  | .nu _ => 2
  | .st _ => 3
  | .sg _ => 5
def Tk.t : Tk → Txt
  | .nm t => t
  | .gr t => t
  | .nu _ => t0
  | .st t => t
  | .sg t => t
def Tk.n : Tk → Int
  | .nu n => n
  | _ => 0
/-- The signs behind which anything may stand. -/
def softS : List (List UInt8) := [[40], [41], [91], [93], [58], [124], [44], [46], [43], [42], [61]]
def hardS : List (List UInt8) := [[33], [60], [45], [33, 61], [60, 61]]
def Tk.ok : Tk → Prop
  | .nm t => nameB t.1 = true
  | .gr t => allB 65 90 (bl8 t) = true ∧ 1 ≤ (bl8 t).length ∧ (bl8 t).length ≤ 8
  | .nu n => -9223372036854775808 ≤ n ∧ n ≤ 9223372036854775807
  | .st t => isTextB t.1 = true
  | .sg t => bl8 t ∈ softS ∨ bl8 t ∈ hardS
/-- What follows is no letter, no digit. -/
def endW (r : List UInt8) : Prop := ∀ c, r.head? = some c → inB 97 122 c.toNat = false ∧ inB 65 90 c.toNat = false ∧ inB 48 57 c.toNat = false
/-- What follows is a blank or a letter. -/
def endH (r : List UInt8) : Prop := ∃ c, r.head? = some c ∧ (c = 32 ∨ inB 97 122 c.toNat = true)
def Tk.stop : Tk → List UInt8 → Prop
  | .nm _, r => endW r
  | .gr _, r => endW r
  | .nu _, r => endW r
  | .st _, _ => True
  | .sg t, r => bl8 t ∈ softS ∨ endH r

theorem lead_stop {lo hi : Int} {l r : List UInt8} (h : allB lo hi l = true) (hr : ∀ c, r.head? = some c → inB lo hi c.toNat = false) : leadL lo hi (l ++ r) = l := by
  induction l with
  | nil =>
    cases r with
    | nil => rfl
    | cons c r => simp [leadL, hr c rfl]
  | cons c l ih =>
    simp only [allB, List.all_cons, Bool.and_eq_true] at h
    have : leadL lo hi (c :: (l ++ r)) = c :: leadL lo hi (l ++ r) := by simp [leadL, h.1]
    rw [List.cons_append, this, ih h.2]
theorem first_nm (t : Txt) (r : List UInt8) (h : nameB t.1 = true) (hr : endW r) : firstW (bl8 t ++ r) = .word 1 (bl8 t) 0 (bl8 t).length := by
  simp only [nameB, Bool.and_eq_true, decide_eq_true_eq] at h
  obtain ⟨⟨h1, h2⟩, h3⟩ := h
  have hl : (bl8 t).length = t.1.size := Array.length_toList ..
  cases e : bl8 t with
  | nil => rw [e] at hl; simp at hl; omega
  | cons c q =>
    have h3' : allB 97 122 (c :: q) = true := by rw [← e]; exact h3
    have hc : inB 97 122 c.toNat = true := by simp only [allB, List.all_cons, Bool.and_eq_true] at h3'; exact h3'.1
    have hld := lead_stop h3' (fun c hc => (hr c hc).1)
    rw [List.cons_append] at hld
    rw [List.cons_append, firstW]
    rw [if_pos hc, nameW, hld, if_pos (by rw [← e, hl]; exact h2)]
theorem first_gr (t : Txt) (r : List UInt8) (h : allB 65 90 (bl8 t) = true) (h1 : 1 ≤ (bl8 t).length) (h8 : (bl8 t).length ≤ 8) (hr : endW r) : firstW (bl8 t ++ r) = .word 4 (bl8 t) 0 (bl8 t).length := by
  cases e : bl8 t with
  | nil => rw [e] at h1; simp at h1
  | cons c q =>
    rw [e] at h h8
    have hc : inB 65 90 c.toNat = true := by simp only [allB, List.all_cons, Bool.and_eq_true] at h; exact h.1
    have hn : inB 97 122 c.toNat = false := by simp [inB] at hc ⊢; omega
    have hld := lead_stop h (fun c hc => (hr c hc).2.1)
    rw [List.cons_append] at hld
    rw [List.cons_append, firstW]
    rw [if_neg (by rw [hn]; decide), if_pos hc, greatW, hld, if_pos h8]
theorem dec_digits (n : Nat) (r : List UInt8) (hr : endW r) : leadL 48 57 (natL n ++ r) = natL n := lead_stop (natL_digits n) (fun c hc => (hr c hc).2.2)
theorem first_nu (n : Int) (r : List UInt8) (h0 : -9223372036854775808 ≤ n) (h1 : n ≤ 9223372036854775807) (hr : endW r) : firstW (decL n ++ r) = .word 2 [] n (decL n).length := by
  unfold decL
  by_cases hn : n < 0
  · rw [if_pos hn]
    have q1 : inB 97 122 (45 : UInt8).toNat = false := rfl
    have q2 : inB 65 90 (45 : UInt8).toNat = false := rfl
    have q3 : isNumL (45 :: natL n.natAbs ++ r) = true := by
      cases e : natL n.natAbs with
      | nil => exact absurd e (natL_ne _)
      | cons c q =>
        have hc := digit_head (natL_digits _) e
        simp [isNumL, inB]; omega
    have hm : minusL (45 :: natL n.natAbs ++ r) = 1 := rfl
    have hn2 : numLen (45 :: natL n.natAbs ++ r) = (natL n.natAbs).length.succ := by rw [numLen, hm, List.cons_append, List.drop_succ_cons, List.drop_zero, dec_digits _ _ hr]; omega
    rw [firstW_num _ 45 rfl q1 q2 q3, numW, hn2]
    have ht : (45 :: natL n.natAbs ++ r).take (natL n.natAbs).length.succ = 45 :: natL n.natAbs := by rw [List.cons_append, List.take_succ_cons, List.take_append_of_le_length (Nat.le_refl _), List.take_length]
    rw [ht, parseI_neg _ (by omega)]
    simp only [List.length_cons]
    rw [show (-(n.natAbs : Int)) = n by omega]
  · rw [if_neg hn]
    cases e : natL n.natAbs with
    | nil => exact absurd e (natL_ne _)
    | cons c q =>
      have hc := digit_head (natL_digits _) e
      have h45 : ¬ (c = 45) := by rintro rfl; revert hc; decide
      have q1 : inB 97 122 c.toNat = false := by simp [inB]; omega
      have q2 : inB 65 90 c.toNat = false := by simp [inB]; omega
      have q3 : isNumL (c :: q ++ r) = true := by simp [isNumL, h45, inB]; omega
      have hm : minusL (c :: q ++ r) = 0 := by simp [minusL, h45]
      have hn2 : numLen (c :: q ++ r) = (c :: q).length := by rw [numLen, hm, List.drop_zero, ← e, dec_digits _ _ hr]; omega
      rw [firstW_num _ c rfl q1 q2 q3, numW, hn2]
      rw [List.take_append_of_le_length (Nat.le_refl _), List.take_length, ← e, parseI_pos _ (by omega)]
      simp only
      rw [show (n.natAbs : Int) = n by omega]

theorem esc_cons (c : UInt8) (l : List UInt8) : flatB (escP (c :: l)) = flatB (escC c) ++ flatB (escP l) := by
  have e : escP (c :: l) = escC c ++ escP l := by simp [escP]
  rw [e, flatB_append]
theorem endL_escR (l r : List UInt8) (h : allB 32 126 l = true) : endL (flatB (escP l) ++ 34 :: r) = some ((flatB (escP l)).length + 1) := by
  induction l with
  | nil => simp [escP, flatB, endL.eq_def]
  | cons c l ih =>
    simp only [allB, List.all_cons, Bool.and_eq_true] at h
    rw [esc_cons]
    by_cases hc : c.toNat = 34 ∨ c.toNat = 92
    · have e1 : flatB (escC c) = [92, c] := by rw [escC, if_pos hc]; rfl
      rw [e1]
      show endL (92 :: c :: (flatB (escP l) ++ 34 :: r)) = _
      rw [endL, if_neg (by decide), if_pos (by decide), if_pos hc, ih h.2]
      simp
    · have e1 : flatB (escC c) = [c] := by rw [escC, if_neg hc]; rfl
      rw [e1]
      show endL (c :: (flatB (escP l) ++ 34 :: r)) = _
      rw [endL.eq_def]
      simp only
      rw [if_neg (fun q => hc (.inl q)), if_neg (fun q => hc (.inr q)), if_pos h.1, ih h.2]
      simp
theorem bareL_escR (l : List UInt8) : bareL (flatB (escP l)) = l := by
  induction l with
  | nil => rfl
  | cons c l ih =>
    rw [esc_cons]
    by_cases hc : c.toNat = 34 ∨ c.toNat = 92
    · have e1 : flatB (escC c) = [92, c] := by rw [escC, if_pos hc]; rfl
      rw [e1]
      show bareL (92 :: c :: flatB (escP l)) = _
      rw [bareL, if_pos (by decide), ih]
    · have e1 : flatB (escC c) = [c] := by rw [escC, if_neg hc]; rfl
      rw [e1]
      show bareL (c :: flatB (escP l)) = _
      rw [bareL.eq_def]
      simp only
      rw [if_neg (fun q => hc (.inr q)), ih]
theorem first_st (t : Txt) (r : List UInt8) (h : isTextB t.1 = true) : firstW (34 :: (flatB (escP (bl8 t)) ++ [34]) ++ r) = .word 3 (bl8 t) 0 (34 :: (flatB (escP (bl8 t)) ++ [34])).length := by
  simp only [isTextB, Bool.and_eq_true, decide_eq_true_eq] at h
  have hl : (bl8 t).length = t.1.size := Array.length_toList ..
  have e : (34 :: (flatB (escP (bl8 t)) ++ [34]) ++ r) = 34 :: (flatB (escP (bl8 t)) ++ 34 :: r) := by simp
  rw [e, firstW_text _ 34 rfl rfl rfl rfl rfl, textW]
  simp only [List.drop_succ_cons, List.drop_zero]
  rw [endL_escR (bl8 t) r h.2]
  simp only [Nat.add_sub_cancel]
  rw [List.take_append_of_le_length (Nat.le_refl _), List.take_length, bareL_escR, if_pos (by rw [hl]; exact h.1)]
  simp

theorem first_sg (t : Txt) (r : List UInt8) (h : bl8 t ∈ softS ∨ bl8 t ∈ hardS) (hr : bl8 t ∈ softS ∨ endH r) : firstW (bl8 t ++ r) = .word 5 (bl8 t) 0 (bl8 t).length := by
  generalize bl8 t = l at h hr
  have soft : l ∈ softS → firstW (l ++ r) = .word 5 l 0 l.length := by
    intro hs
    simp only [softS, List.mem_cons, List.not_mem_nil, or_false] at hs
    rcases hs with rfl | rfl | rfl | rfl | rfl | rfl | rfl | rfl | rfl | rfl | rfl <;>
      (rw [firstW_sign _ _ rfl (by decide) (by decide) (by simp [isNumL, inB]) (by decide)]; simp [signW, wSigns, List.isPrefixOf])
  rcases h with h | h
  · exact soft h
  rcases hr with hr | ⟨c, hc, hr⟩
  · exact soft hr
  obtain ⟨q, rfl⟩ : ∃ q, r = c :: q := by
    cases r with
    | nil => simp at hc
    | cons d q => simp at hc; subst hc; exact ⟨q, rfl⟩
  have h61 : ¬ (61 = c) := by
    rintro rfl
    rcases hr with hr | hr
    · revert hr; decide
    · revert hr; decide
  have hd : inB 48 57 c.toNat = false := by
    rcases hr with rfl | hr
    · decide
    · simp [inB] at hr ⊢; omega
  simp only [hardS, List.mem_cons, List.not_mem_nil, or_false] at h
  rcases h with rfl | rfl | rfl | rfl | rfl <;>
    (rw [firstW_sign _ _ rfl (by decide) (by decide) (by first | (simp [isNumL, inB]; done) | (simp [isNumL]; exact hd)) (by decide)]; simp [signW, wSigns, List.isPrefixOf, h61])

theorem first_tk (t : Tk) (r : List UInt8) (h : t.ok) (hr : t.stop r) : firstW (t.by ++ r) = .word t.k (bl8 t.t) t.n t.by.length := by
  cases t with
  | nm t => exact first_nm t r h hr
  | gr t => exact first_gr t r h.1 h.2.1 h.2.2 hr
  | nu n => exact first_nu n r h.1 h.2 hr
  | st t => exact first_st t r h
  | sg t => exact first_sg t r h hr
theorem tk_head (t : Tk) (h : t.ok) : ∃ c r, t.by = c :: r ∧ c.toNat ≠ 32 := by
  have names : ∀ (lo hi : Int) (l : List UInt8), 33 ≤ lo → 1 ≤ l.length → allB lo hi l = true → ∃ c r, l = c :: r ∧ c.toNat ≠ 32 := by
    intro lo hi l hlo h1 ha
    cases l with
    | nil => simp at h1
    | cons c r =>
      simp only [allB, List.all_cons, Bool.and_eq_true] at ha
      refine ⟨c, r, rfl, ?_⟩
      have := ha.1
      simp [inB] at this
      omega
  cases t with
  | nm t =>
    simp only [Tk.ok, nameB, Bool.and_eq_true, decide_eq_true_eq] at h
    exact names 97 122 _ (by decide) (by have : (bl8 t).length = t.1.size := Array.length_toList ..; have := h.1.1; show 1 ≤ (bl8 t).length; omega) h.2
  | gr t => exact names 65 90 _ (by decide) h.2.1 h.1
  | nu n =>
    simp only [Tk.by, decL]
    split
    · exact ⟨45, _, rfl, by decide⟩
    · exact names 48 57 _ (by decide) (by cases e : natL n.natAbs with | nil => exact absurd e (natL_ne _) | cons c r => simp) (natL_digits _)
  | st t => exact ⟨34, _, rfl, by decide⟩
  | sg t =>
    simp only [Tk.ok, softS, hardS, List.mem_cons, List.not_mem_nil, or_false] at h
    simp only [Tk.by]
    rcases h with (h | h | h | h | h | h | h | h | h | h | h) | (h | h | h | h | h) <;> rw [h] <;> exact ⟨_, _, rfl, by decide⟩

/-- What is written: words and blanks. -/
inductive It where
  | tk (t : Tk)
  | bl
def It.by : It → List UInt8
  | .tk t => t.by
  | .bl => [32]
def flatI (l : List It) : List UInt8 := l.flatMap It.by
theorem flatI_nil : flatI [] = [] := rfl
theorem flatI_tk (t : Tk) (l : List It) : flatI (.tk t :: l) = t.by ++ flatI l := by simp [flatI, It.by]
theorem flatI_bl (l : List It) : flatI (.bl :: l) = 32 :: flatI l := by simp [flatI, It.by]
theorem flatI_append (a b : List It) : flatI (a ++ b) = flatI a ++ flatI b := by simp [flatI]
/-- Each word may be, and is ended by what follows. -/
def goodI : List It → List UInt8 → Prop
  | [], _ => True
  | .tk t :: r, z => t.ok ∧ t.stop (flatI r ++ z) ∧ goodI r z
  | .bl :: r, z => goodI r z
theorem goodI_append : ∀ (a b : List It) (z : List UInt8), goodI (a ++ b) z ↔ goodI a (flatI b ++ z) ∧ goodI b z
  | [], b, z => by simp [goodI]
  | .tk t :: a, b, z => by
    simp only [List.cons_append, goodI, goodI_append a b z, flatI_append, List.append_assoc, and_assoc]
  | .bl :: a, b, z => by simp only [List.cons_append, goodI, goodI_append a b z]
/-- The words, each with its place. -/
def wordsI : Nat → List It → List Wd
  | _, [] => []
  | a, .tk t :: r => .word t.k (bl8 t.t) t.n a :: wordsI (a + t.by.length) r
  | a, .bl :: r => wordsI (a + 1) r
theorem restI : ∀ (l : List It) (a : Nat), goodI l [] → restL a (flatI l) = wordsI a l
  | [], a, _ => restL_nil a
  | .bl :: r, a, h => by
    rw [flatI_bl, restL_blank _ _ (by decide), restI r (a + 1) h]; rfl
  | .tk t :: r, a, h => by
    obtain ⟨h1, h2, h3⟩ := h
    rw [List.append_nil] at h2
    obtain ⟨c, q, e, hc⟩ := tk_head t h1
    have hf := first_tk t (flatI r) h1 h2
    rw [flatI_tk]
    have hd : (t.by ++ flatI r).drop t.by.length = flatI r := List.drop_left
    rw [e, List.cons_append] at hf hd ⊢
    rw [restL_word a hc hf, hd, restI r _ h3, wordsI, e]
theorem wordsI_word : ∀ (l : List It) (a : Nat), ∀ x ∈ wordsI a l, isWord x = true
  | [], _, x, h => by simp [wordsI] at h
  | .tk t :: r, a, x, h => by
    simp only [wordsI, List.mem_cons] at h
    rcases h with rfl | h
    · rfl
    · exact wordsI_word r _ x h
  | .bl :: r, a, x, h => wordsI_word r _ x h
/-- How many words. -/
def cntI (l : List It) : Nat := (l.filter fun x => match x with | .tk _ => true | .bl => false).length
theorem cntI_append (a b : List It) : cntI (a ++ b) = cntI a + cntI b := by simp [cntI]
theorem cntI_tk (t : Tk) (l : List It) : cntI (.tk t :: l) = cntI l + 1 := by simp [cntI]
theorem cntI_bl (l : List It) : cntI (.bl :: l) = cntI l := by simp [cntI]
theorem wordsI_len : ∀ (l : List It) (a : Nat), (wordsI a l).length = cntI l
  | [], _ => rfl
  | .tk t :: r, a => by simp only [wordsI, List.length_cons, cntI_tk, wordsI_len r]
  | .bl :: r, a => by simp only [wordsI, cntI_bl, wordsI_len r]
theorem cut_items (l : List It) (h : goodI l []) (h5 : cntI l ≤ 500) : cutL (flatI l) = wordsI 0 l ∧ errL 0 (cutL (flatI l)) = 0 ∧ wordsL (flatI l) = wordsI 0 l := by
  have e : cutL (flatI l) = wordsI 0 l := restI l 0 h
  have e2 : errL 0 (wordsI 0 l) = 0 := errL_all _ (wordsI_word l 0) (by rw [wordsI_len]; exact h5)
  refine ⟨e, by rw [e, e2], ?_⟩
  unfold wordsL
  rw [e, if_pos e2]
end Go.Proofs.YtfofpenajkaalaaDoor

namespace Go.Proofs.YtfofpenajkaalaaDoor
open Go.RowKit Go.Shelf

def Tk.pw (t : Tk) (a : Nat) : Pw := ⟨t.k, t.t, t.n, a⟩
def toksI : Nat → List It → List Pw
  | _, [] => []
  | a, .tk t :: r => t.pw a :: toksI (a + t.by.length) r
  | a, .bl :: r => toksI (a + 1) r
theorem txt_eq (t : Txt) (h : (bl8 t).length ≤ maxLen) : (⟨⟨(bl8 t).toArray⟩, by show (bl8 t).toArray.size ≤ maxLen; simpa using h⟩ : Txt) = t := by
  apply Subtype.ext
  show (⟨t.1.data.toList.toArray⟩ : ByteArray) = t.1
  simp
theorem pwOf_tk (t : Tk) (a : Nat) : pwOf (.word t.k (bl8 t.t) t.n a) = t.pw a := by
  have hl : (bl8 t.t).length ≤ maxLen := by
    have : (bl8 t.t).length = t.t.1.size := Array.length_toList ..
    rw [this]; exact t.t.2
  unfold pwOf Tk.pw
  simp only
  rw [dif_pos hl, txt_eq t.t hl]
theorem words_toks : ∀ (l : List It) (a : Nat), (wordsI a l).map pwOf = toksI a l
  | [], _ => rfl
  | .tk t :: r, a => by simp only [wordsI, List.map_cons, pwOf_tk, words_toks r, toksI]
  | .bl :: r, a => by simp only [wordsI, toksI, words_toks r]
theorem toksI_append : ∀ (l m : List It) (a : Nat), toksI a (l ++ m) = toksI a l ++ toksI (a + (flatI l).length) m
  | [], m, a => by simp [toksI, flatI]
  | .tk t :: r, m, a => by
    simp only [List.cons_append, toksI, toksI_append r m, flatI_tk, List.length_append, Nat.add_assoc]
  | .bl :: r, m, a => by
    simp only [List.cons_append, toksI, toksI_append r m, flatI_bl, List.length_cons]
    congr 2; omega

theorem trim_blank (l : List UInt8) (k : Nat) (h : ∀ b ∈ l, b ≠ 32) : Lib.trimRightB (l ++ List.replicate k 32) 32 = l := by
  have := Lib.trimRightB_take (l ++ List.replicate k 32) 32 l.length (by simp) (fun j b hj hb => by
    rw [List.getElem?_append_right hj, List.getElem?_replicate] at hb
    split at hb
    · exact (Option.some.inj hb).symm
    · cases hb) (fun b h0 hb => by
    rw [List.getElem?_append_left (by omega)] at hb
    exact h b (List.mem_of_getElem? hb))
  rw [this, List.take_append_of_le_length (Nat.le_refl _), List.take_length]
theorem dec_seen (n : Int) : ∀ b ∈ decL n, b ≠ 32 := by
  have hd : ∀ m : Nat, ∀ b ∈ natL m, b ≠ 32 := by
    intro m b hb e
    have := natL_digits m
    simp only [allB, List.all_eq_true] at this
    have := this b hb
    rw [e] at this
    revert this; decide
  intro b hb
  unfold decL at hb
  split at hb
  · rcases List.mem_cons.1 hb with rfl | hb
    · decide
    · exact hd _ b hb
  · exact hd _ b hb
theorem next_place : ∀ (r : List It) (a : Nat), ∃ k rest, flatI r = List.replicate k 32 ++ rest ∧ (match (toksI a r)[0]? with | some w => w.p.toNat | none => a + (flatI r).length) = a + k
  | [], a => ⟨0, [], rfl, rfl⟩
  | .tk t :: r, a => ⟨0, _, rfl, by simp [toksI, Tk.pw]⟩
  | .bl :: r, a => by
    obtain ⟨k, rest, h1, h2⟩ := next_place r (a + 1)
    refine ⟨k + 1, rest, by rw [flatI_bl, h1]; rfl, ?_⟩
    rw [show toksI a (.bl :: r) = toksI (a + 1) r from rfl]
    rw [show a + (flatI (.bl :: r)).length = a + 1 + (flatI r).length by rw [flatI_bl, List.length_cons]; omega, h2]
    omega
theorem trims (s : ByteArray) : ∀ (its : List It) (pre : List UInt8), s.data.toList = pre ++ flatI its → ∀ (i : Nat) w, (toksI pre.length its)[i]? = some w → w.k = 2 →
    (trm s w.p.toNat (match (toksI pre.length its)[i + 1]? with | some v => v.p.toNat | none => s.size)).data.toList = decL w.n
  | [], _, _, i, w, h, _ => by simp [toksI] at h
  | .bl :: r, pre, hs, i, w, h, hk => by
    have := trims s r (pre ++ [32]) (by rw [hs, flatI_bl]; simp) i w
    have e : (pre ++ [(32 : UInt8)]).length = pre.length + 1 := by simp
    rw [e] at this
    exact this h hk
  | .tk t :: r, pre, hs, i, w, h, hk => by
    have hsz : s.size = pre.length + t.by.length + (flatI r).length := by
      have := congrArg List.length hs
      rw [flatI_tk, List.length_append, List.length_append] at this
      rw [show s.data.toList.length = s.size from Array.length_toList ..] at this
      omega
    cases i with
    | succ i =>
      have := trims s r (pre ++ t.by) (by rw [hs, flatI_tk, List.append_assoc]) i w
      have e : (pre ++ t.by).length = pre.length + t.by.length := by simp
      rw [e] at this
      exact this (by simpa [toksI] using h) hk
    | zero =>
      have hw : w = t.pw pre.length := by simpa [toksI] using h.symm
      subst hw
      obtain ⟨n, rfl⟩ : ∃ n, t = .nu n := by
        cases t <;> first | exact ⟨_, rfl⟩ | (simp [Tk.pw, Tk.k] at hk)
      obtain ⟨k, rest, h1, h2⟩ := next_place r (pre.length + (Tk.nu n).by.length)
      have he : (match (toksI pre.length (.tk (.nu n) :: r))[0 + 1]? with | some v => v.p.toNat | none => s.size) = pre.length + (Tk.nu n).by.length + k := by
        rw [← h2, hsz]; rfl
      rw [he]
      show Lib.trimRightB (s.extract ((pre.length : Int).toNat) _).data.toList 32 = decL n
      rw [ext_list, hs, flatI_tk, h1, Int.toNat_natCast]
      have e : (pre ++ ((Tk.nu n).by ++ (List.replicate k 32 ++ rest))).take (pre.length + (Tk.nu n).by.length + k) = pre ++ ((Tk.nu n).by ++ List.replicate k 32) := by
        rw [show pre ++ ((Tk.nu n).by ++ (List.replicate k 32 ++ rest)) = (pre ++ ((Tk.nu n).by ++ List.replicate k 32)) ++ rest by simp]
        exact List.take_left' (by simp; omega)
      rw [e, List.drop_left]
      exact trim_blank _ _ (dec_seen n)

theorem val_dec (n : Int) : (valB 1 n ⟨#[]⟩).data.toList = decL n := by
  have hB : isB 1 n ⟨#[]⟩ = true := by unfold isB; rw [if_pos rfl, nil_toList]; rfl
  rw [valB_yes hB]
  show (txtB (litP 1 n ⟨#[]⟩)).data.toList = _
  rw [show litP 1 n ⟨#[]⟩ = [itoaB n] from rfl, txtB_one, ← decB_itoa]
  rfl
theorem fix_same (x : Pw × ByteArray) (h : x.1.k = 2 → x.2.data.toList = decL x.1.n) : fixW x = x.1 := by
  unfold fixW
  by_cases hk : x.1.k = 2
  · have e : x.2.toList = (valB 1 x.1.n ⟨#[]⟩).toList := by
      rw [show x.2 = valB 1 x.1.n ⟨#[]⟩ from eq_of_list ((h hk).trans (val_dec _).symm)]
    rw [if_neg (by rw [e]; simp)]
  · rw [if_neg (by simp [hk])]
/-- What is read of a text that is written of words. -/
theorem read_items (l : List It) (h : goodI l []) (h5 : cntI l ≤ 500) : readP ⟨(flatI l).toArray⟩ = ⟨toksI 0 l, 0, 0⟩ := by
  have hl : (⟨(flatI l).toArray⟩ : ByteArray).data.toList = flatI l := by simp
  obtain ⟨h1, h2, h3⟩ := cut_items l h h5
  have hw : wordsP ⟨(flatI l).toArray⟩ = toksI 0 l := by unfold wordsP; rw [hl, h3, words_toks]
  unfold readP
  rw [hl, h2]
  congr 1
  unfold pairsP
  rw [hw]
  apply List.ext_getElem?
  intro i
  rw [List.getElem?_map, List.getElem?_mapIdx]
  cases hi : (toksI 0 l)[i]? with
  | none => rfl
  | some w =>
    simp only [Option.map_some]
    rw [fix_same]
    intro hk
    have := trims ⟨(flatI l).toArray⟩ l [] (by simp) i w hi hk
    simp only [endP', hw]
    exact this
end Go.Proofs.YtfofpenajkaalaaDoor

namespace Go.Proofs.YtfofpenajkaalaaDoor
open Go.RowKit Go.Shelf

abbrev opTk : Int → Tk
  | 3 => .sg (txw [43]) | 4 => .sg (txw [45]) | 5 => .sg (txw [42]) | 6 => .sg (txw [61]) | 7 => .sg (txw [33, 61]) | 8 => .sg (txw [60]) | 9 => .sg (txw [60, 61])
  | 10 => .gr (txw [65, 78, 68]) | 11 => .gr (txw [79, 82]) | _ => .sg (txw [43])
def litTk (d : Dat) : Tk := if d.k = 2 then .st d.s else if d.k = 3 then .gr (if d.n = 1 then txw [84, 82, 85, 69] else txw [70, 65, 76, 83, 69]) else .nu d.n
abbrev opn : It := .tk (.sg (txw [40]))
abbrev cls : It := .tk (.sg (txw [41]))
abbrev dotI : It := .tk (.sg (txw [46]))
abbrev notI : It := .tk (.gr (txw [78, 79, 84]))
def condNI (d : Dat) (l : List (List It)) : List It :=
  if d.op = 1 then [.tk (litTk d)]
  else if d.op = 2 then [.tk (.nm d.al), dotI, .tk (.nm d.fd)]
  else if d.op = 12 then opn :: notI :: .bl :: (l.getD 0 [] ++ [cls])
  else opn :: (l.getD 0 [] ++ .bl :: .tk (opTk d.op) :: .bl :: (l.getD 1 [] ++ [cls]))
mutual
def condI : Tree → List It
  | .mk d ks => condNI d (condIL ks)
def condIL : List Tree → List (List It)
  | [] => []
  | t :: ts => condI t :: condIL ts
end

/-- What the data of a condition that may be are: by sign. -/
inductive Shp : Tree → Prop
  | int (n : Int) (h0 : -9223372036854775808 ≤ n) (h1 : n ≤ 9223372036854775807) : Shp (.mk ⟨1, 1, n, t0, t0, t0⟩ [])
  | str (s : Txt) (h : isTextB s.1 = true) : Shp (.mk ⟨1, 2, 0, s, t0, t0⟩ [])
  | bool (n : Int) (h : n = 0 ∨ n = 1) : Shp (.mk ⟨1, 3, n, t0, t0, t0⟩ [])
  | fld (a f : Txt) (ha : nameB a.1 = true) (hf : nameB f.1 = true) : Shp (.mk ⟨2, 0, 0, t0, a, f⟩ [])
  | not (x : Tree) (hx : Shp x) : Shp (.mk (dOp 12) [x])
  | two (o : Int) (h3 : 3 ≤ o) (h11 : o ≤ 11) (x y : Tree) (hx : Shp x) (hy : Shp y) : Shp (.mk (dOp o) [x, y])
theorem txt_nil {t : Txt} (h : t.1.toList.isEmpty = true) : t = t0 := by
  apply Subtype.ext
  apply eq_of_list
  have h2 := List.isEmpty_iff.1 h
  rw [ByteArray.toList_eq] at h2
  exact h2
theorem snd_shp {t : Tree} (h : Snd t) : Shp t := by
  induction h with
  | mk d ks hs h0 h1 hk ih =>
    obtain ⟨op, k, n, s, al, fd⟩ := d
    simp only [soundB, Bool.and_eq_true, decide_eq_true_eq] at hs
    obtain ⟨⟨⟨g1, g12⟩, gm⟩, hs⟩ := hs
    by_cases o1 : op = 1
    · subst o1
      simp only [if_true] at hs
      have hk0 : ks = [] := List.eq_nil_of_length_eq_zero (by rw [gm]; rfl)
      subst hk0
      simp only [Bool.and_eq_true, bareB] at hs
      obtain ⟨⟨ha, hf⟩, hb⟩ := hs
      obtain rfl := txt_nil ha
      obtain rfl := txt_nil hf
      unfold isB at hb
      split at hb
      · rename_i e; subst e
        obtain rfl := txt_nil hb
        exact .int n h0 h1
      split at hb
      · rename_i e; subst e
        simp only [Bool.and_eq_true, decide_eq_true_eq] at hb
        obtain ⟨rfl, hb⟩ := hb
        exact .str s hb
      split at hb
      · rename_i e; subst e
        simp only [Bool.and_eq_true, inB, decide_eq_true_eq] at hb
        obtain rfl := txt_nil hb.2
        exact .bool n (by omega)
      · cases hb
    by_cases o2 : op = 2
    · subst o2
      rw [if_neg (by decide), if_pos rfl] at hs
      have hk0 : ks = [] := List.eq_nil_of_length_eq_zero (by rw [gm]; rfl)
      subst hk0
      simp only [Bool.and_eq_true, zeroB, decide_eq_true_eq] at hs
      obtain ⟨⟨⟨rfl, rfl, h3⟩, ha⟩, hf⟩ := hs
      obtain rfl := txt_nil (List.isEmpty_iff.2 h3)
      exact .fld al fd ha hf
    rw [if_neg o1, if_neg o2] at hs
    simp only [Bool.and_eq_true, bareB, zeroB, decide_eq_true_eq] at hs
    obtain ⟨⟨ha, hf⟩, rfl, rfl, h3⟩ := hs
    obtain rfl := txt_nil ha
    obtain rfl := txt_nil hf
    obtain rfl := txt_nil (List.isEmpty_iff.2 h3)
    by_cases o12 : op = 12
    · subst o12
      have hl : ks.length = 1 := by rw [gm]; rfl
      match ks, hl with
      | [x], _ => exact .not x (ih 0 x rfl)
    · have hl : ks.length = 2 := by rw [gm, kidsN, if_neg o12, if_pos ⟨by omega, by omega⟩]
      match ks, hl with
      | [x, y], _ => exact .two op (by omega) (by omega) x y (ih 0 x rfl) (ih 1 y rfl)
end Go.Proofs.YtfofpenajkaalaaDoor

namespace Go.Proofs.YtfofpenajkaalaaDoor
open Go.RowKit Go.Shelf

theorem bl8_tx (l : List UInt8) (h : l.length ≤ maxLen) : bl8 (txw l h) = l := by simp [bl8]
theorem op_cases {o : Int} (h3 : 3 ≤ o) (h11 : o ≤ 11) : o = 3 ∨ o = 4 ∨ o = 5 ∨ o = 6 ∨ o = 7 ∨ o = 8 ∨ o = 9 ∨ o = 10 ∨ o = 11 := by omega
theorem op_by {o : Int} (h3 : 3 ≤ o) (h11 : o ≤ 11) : (opTk o).by = (sgB o.toNat).data.toList := by
  rcases op_cases h3 h11 with rfl | rfl | rfl | rfl | rfl | rfl | rfl | rfl | rfl <;> rfl
theorem soft_ok {l : List UInt8} {h : l.length ≤ maxLen} (hs : l ∈ softS) : (Tk.sg (txw l h)).ok := .inl (by rw [bl8_tx]; exact hs)
theorem soft_stop {l : List UInt8} {h : l.length ≤ maxLen} (hs : l ∈ softS) (z : List UInt8) : (Tk.sg (txw l h)).stop z := .inl (by rw [bl8_tx]; exact hs)
theorem gr_ok {l : List UInt8} {h : l.length ≤ maxLen} (h1 : allB 65 90 l = true) (h2 : 1 ≤ l.length) (h3 : l.length ≤ 8) : (Tk.gr (txw l h)).ok := by
  refine ⟨?_, ?_, ?_⟩ <;> rw [bl8_tx] <;> assumption
theorem hard_ok {l : List UInt8} {h : l.length ≤ maxLen} (hs : l ∈ hardS) : (Tk.sg (txw l h)).ok := .inr (by rw [bl8_tx]; exact hs)
theorem op_ok {o : Int} (h3 : 3 ≤ o) (h11 : o ≤ 11) : (opTk o).ok := by
  rcases op_cases h3 h11 with rfl | rfl | rfl | rfl | rfl | rfl | rfl | rfl | rfl
  · exact soft_ok (l := [43]) (h := by decide) (by decide)
  · exact hard_ok (l := [45]) (h := by decide) (by decide)
  · exact soft_ok (l := [42]) (h := by decide) (by decide)
  · exact soft_ok (l := [61]) (h := by decide) (by decide)
  · exact hard_ok (l := [33, 61]) (h := by decide) (by decide)
  · exact hard_ok (l := [60]) (h := by decide) (by decide)
  · exact hard_ok (l := [60, 61]) (h := by decide) (by decide)
  · exact gr_ok (l := [65, 78, 68]) (h := by decide) (by decide) (by decide) (by decide)
  · exact gr_ok (l := [79, 82]) (h := by decide) (by decide) (by decide) (by decide)
theorem op_stop {o : Int} (h3 : 3 ≤ o) (h11 : o ≤ 11) (z : List UInt8) : (opTk o).stop (32 :: z) := by
  have e : endW (32 :: z) := fun c hc => by simp at hc; subst hc; exact ⟨rfl, rfl, rfl⟩
  have e2 : endH (32 :: z) := ⟨32, rfl, .inl rfl⟩
  rcases op_cases h3 h11 with rfl | rfl | rfl | rfl | rfl | rfl | rfl | rfl | rfl <;> first | exact .inr e2 | exact e
theorem lit_by (k n : Int) (s : Txt) (h : k = 1 ∨ k = 2 ∨ k = 3) : (litTk ⟨1, k, n, s, t0, t0⟩).by = flatB (litP k n s.1) := by
  rcases h with rfl | rfl | rfl
  · show decL n = flatB [(⟨(Lib.itoa n).toArray⟩ : ByteArray)]
    have := congrArg (fun b : ByteArray => b.data.toList) (decB_itoa n)
    simp only [decB, itoaB] at this
    simpa [flatB] using this
  · show 34 :: (flatB (escP (bl8 s)) ++ [34]) = flatB ([quB] ++ escP s.1.data.toList ++ [quB])
    rw [flatB_append, flatB_append]
    simp [flatB, bl8]
  · have h1 : litTk ⟨1, 3, n, s, t0, t0⟩ = .gr (if n = 1 then txw [84, 82, 85, 69] else txw [70, 65, 76, 83, 69]) := rfl
    have h2 : litP 3 n s.1 = [if n = 1 then ⟨#[84, 82, 85, 69]⟩ else ⟨#[70, 65, 76, 83, 69]⟩] := rfl
    rw [h1, h2]
    by_cases hn : n = 1
    · rw [if_pos hn, if_pos hn]; rfl
    · rw [if_neg hn, if_neg hn]; rfl
theorem condI_lit (d : Dat) (h : d.op = 1) : condI (.mk d []) = [.tk (litTk d)] := by simp only [condI, condIL, condNI, h, if_true]
theorem condI_fld (a f : Txt) : condI (.mk ⟨2, 0, 0, t0, a, f⟩ []) = [.tk (.nm a), dotI, .tk (.nm f)] := rfl
theorem condP_lit (k n : Int) (s : Txt) : condP (.mk ⟨1, k, n, s, t0, t0⟩ []) = litP k n s.1 := rfl
theorem condP_fld (a f : Txt) : condP (.mk ⟨2, 0, 0, t0, a, f⟩ []) = [a.1, dotB, f.1] := rfl
theorem condI_not (x : Tree) : condI (.mk (dOp 12) [x]) = opn :: notI :: .bl :: (condI x ++ [cls]) := rfl
theorem condP_not (x : Tree) : condP (.mk (dOp 12) [x]) = [[notB], condP x, [clB]].flatten := rfl
theorem condI_two {o : Int} (h3 : 3 ≤ o) (h11 : o ≤ 11) (x y : Tree) : condI (.mk (dOp o) [x, y]) = opn :: (condI x ++ .bl :: .tk (opTk o) :: .bl :: (condI y ++ [cls])) := by
  have e1 : ¬ o = 1 := by omega
  have e2 : ¬ o = 2 := by omega
  have e12 : ¬ o = 12 := by omega
  simp only [condI, condIL, condNI, e1, e2, e12, if_false]; rfl
theorem condP_two {o : Int} (h3 : 3 ≤ o) (h11 : o ≤ 11) (x y : Tree) : condP (.mk (dOp o) [x, y]) = [[opB], condP x, [blB, sgB o.toNat, blB], condP y, [clB]].flatten := by
  have e1 : ¬ o = 1 := by omega
  have e2 : ¬ o = 2 := by omega
  have e12 : ¬ o = 12 := by omega
  simp only [condP, condL, condN, e1, e2, e12, if_false]; rfl
theorem flatB_one (x : ByteArray) : flatB [x] = x.data.toList := by simp [flatB]
theorem flatB_cons (x : ByteArray) (l : List ByteArray) : flatB (x :: l) = x.data.toList ++ flatB l := by simp [flatB]
theorem flat_two (a b : List (List ByteArray)) : flatB (a ++ b).flatten = flatB a.flatten ++ flatB b.flatten := by rw [List.flatten_append, flatB_append]
theorem cond_flat {t : Tree} (h : Shp t) : flatI (condI t) = flatB (condP t) := by
  induction h with
  | int n h0 h1 => rw [condI_lit _ rfl, condP_lit, flatI_tk, flatI_nil, List.append_nil]; exact lit_by 1 n t0 (.inl rfl)
  | str s h => rw [condI_lit _ rfl, condP_lit, flatI_tk, flatI_nil, List.append_nil]; exact lit_by 2 0 s (.inr (.inl rfl))
  | bool n h => rw [condI_lit _ rfl, condP_lit, flatI_tk, flatI_nil, List.append_nil]; exact lit_by 3 n t0 (.inr (.inr rfl))
  | fld a f ha hf =>
    rw [condI_fld, condP_fld, flatI_tk, flatI_tk, flatI_tk, flatI_nil, flatB_cons, flatB_cons, flatB_one, List.append_nil]
    rfl
  | not x hx ih =>
    rw [condI_not, condP_not, flatI_tk, flatI_tk, flatI_bl, flatI_append, flatI_tk, flatI_nil, ih]
    simp only [List.flatten_cons, List.flatten_nil, List.append_nil, flatB_append, flatB_one]
    rfl
  | two o h3 h11 x y hx hy ihx ihy =>
    rw [condI_two h3 h11, condP_two h3 h11, flatI_tk, flatI_append, flatI_bl, flatI_tk, flatI_bl, flatI_append, flatI_tk, flatI_nil, ihx, ihy, op_by h3 h11]
    simp only [List.flatten_cons, List.flatten_nil, List.append_nil, flatB_append, flatB_cons]
    simp [bl8, Tk.by, flatB]

/-- What follows a condition. -/
def endC (z : List UInt8) : Prop := ∀ c, z.head? = some c → c = 32 ∨ c = 41 ∨ c = 93
theorem endC.w {z : List UInt8} (h : endC z) : endW z := fun c hc => by
  rcases h c hc with rfl | rfl | rfl <;> exact ⟨rfl, rfl, rfl⟩
theorem endC_one {c : UInt8} {z : List UInt8} (h : c = 32 ∨ c = 41 ∨ c = 93) : endC (c :: z) := fun d hd => by simp at hd; subst hd; exact h
theorem endW_one {c : UInt8} {z : List UInt8} (h : inB 97 122 c.toNat = false ∧ inB 65 90 c.toNat = false ∧ inB 48 57 c.toNat = false) : endW (c :: z) := fun d hd => by simp at hd; subst hd; exact h
theorem cond_good {t : Tree} (h : Shp t) : ∀ z, endC z → goodI (condI t) z := by
  induction h with
  | int n h0 h1 => intro z hz; exact ⟨⟨h0, h1⟩, hz.w, trivial⟩
  | str s h => intro z hz; exact ⟨h, trivial, trivial⟩
  | bool n h =>
    intro z hz
    rcases h with rfl | rfl
    · exact ⟨gr_ok (l := [70, 65, 76, 83, 69]) (h := by decide) (by decide) (by decide) (by decide), hz.w, trivial⟩
    · exact ⟨gr_ok (l := [84, 82, 85, 69]) (h := by decide) (by decide) (by decide) (by decide), hz.w, trivial⟩
  | fld a f ha hf =>
    intro z hz
    exact ⟨ha, endW_one (by decide), soft_ok (by decide), soft_stop (by decide) _, hf, hz.w, trivial⟩
  | not x hx ih =>
    intro z hz
    rw [condI_not]
    refine ⟨soft_ok (by decide), soft_stop (by decide) _, gr_ok (by decide) (by decide) (by decide), ?_, ?_⟩
    · rw [flatI_bl]; exact endW_one (by decide)
    · show goodI (condI x ++ [cls]) z
      rw [goodI_append]
      refine ⟨ih _ ?_, soft_ok (by decide), soft_stop (by decide) _, trivial⟩
      rw [flatI_tk]
      exact endC_one (c := 41) (.inr (.inl rfl))
  | two o h3 h11 x y hx hy ihx ihy =>
    intro z hz
    rw [condI_two h3 h11]
    refine ⟨soft_ok (by decide), soft_stop (by decide) _, ?_⟩
    rw [goodI_append]
    refine ⟨ihx _ ?_, ?_⟩
    · rw [flatI_bl]; exact endC_one (c := 32) (.inl rfl)
    · refine ⟨op_ok h3 h11, ?_, ?_⟩
      · rw [flatI_bl]; exact op_stop h3 h11 _
      · show goodI (condI y ++ [cls]) z
        rw [goodI_append]
        refine ⟨ihy _ ?_, soft_ok (by decide), soft_stop (by decide) _, trivial⟩
        rw [flatI_tk]
        exact endC_one (c := 41) (.inr (.inl rfl))
/-- Words are at most three a node. -/
theorem cond_cnt {t : Tree} (h : Shp t) : ∀ m : Nat, shapedT m t = true → cntI (condI t) ≤ 3 * cntT (21 - m) t := by
  have one : ∀ (m : Nat) (d : Dat), d.op ≠ 0 → m ≤ 5 → cntT (21 - m) (.mk d []) = 1 := by
    intro m d hd hm
    rw [cntT, if_neg (by omega), cntL]
  induction h with
  | int n h0 h1 => intro m hm; rw [shapedT, Bool.and_eq_true, Bool.and_eq_true, decide_eq_true_eq] at hm; rw [one m _ (by simp) hm.1.1]; simp [condI, condNI, cntI]
  | str s h => intro m hm; rw [shapedT, Bool.and_eq_true, Bool.and_eq_true, decide_eq_true_eq] at hm; rw [one m _ (by simp) hm.1.1]; simp [condI, condNI, cntI]
  | bool n h => intro m hm; rw [shapedT, Bool.and_eq_true, Bool.and_eq_true, decide_eq_true_eq] at hm; rw [one m _ (by simp) hm.1.1]; simp [condI, condNI, cntI]
  | fld a f ha hf => intro m hm; rw [shapedT, Bool.and_eq_true, Bool.and_eq_true, decide_eq_true_eq] at hm; rw [one m _ (by simp) hm.1.1]; simp [condI, condNI, cntI]
  | not x hx ih =>
    intro m hm
    rw [shapedT, Bool.and_eq_true, Bool.and_eq_true, decide_eq_true_eq, shapedL, Bool.and_eq_true] at hm
    have := ih (m + 1) hm.2.1
    rw [condI_not, cntT, if_neg (by simp; omega), cntL, cntL, show 21 - m - 1 = 21 - (m + 1) by omega]
    simp only [cntI_tk, cntI_bl, cntI_append]
    have : cntI [] = 0 := rfl
    omega
  | two o h3 h11 x y hx hy ihx ihy =>
    intro m hm
    rw [shapedT, Bool.and_eq_true, Bool.and_eq_true, decide_eq_true_eq, shapedL, Bool.and_eq_true, shapedL, Bool.and_eq_true] at hm
    have h1 := ihx (m + 1) hm.2.1
    have h2 := ihy (m + 1) hm.2.2.1
    rw [condI_two h3 h11, cntT, if_neg (by simp; omega), cntL, cntL, cntL, show 21 - m - 1 = 21 - (m + 1) by omega]
    simp only [cntI_tk, cntI_bl, cntI_append]
    have : cntI [] = 0 := rfl
    omega
end Go.Proofs.YtfofpenajkaalaaDoor

namespace Go.Proofs.YtfofpenajkaalaaDoor
open Go.RowKit Go.Shelf

/-- A word is this one. -/
def isTk (t : Tk) (b : ByteArray) : Bool := (decide (t.k = 5) || decide (t.k = 4)) && (bl8 t.t == b.data.toList)
theorem isW_tk (t : Tk) (a : Nat) (b : ByteArray) : isW (t.pw a) b = isTk t b := by
  unfold isW isTk Tk.pw bl8
  rw [ByteArray.toList_eq, ByteArray.toList_eq]
theorem headW (w : Pw) (r : List Pw) (n e : Int) : (Ps.mk (w :: r) n e).head = w := rfl
theorem tlW (w : Pw) (r : List Pw) (n e : Int) : (Ps.mk (w :: r) n e).tl = ⟨r, n, e⟩ := rfl
theorem must_tk (t : Tk) (a : Nat) (r : List Pw) (n e : Int) (b : ByteArray) (h : isTk t b = true) : mustP ⟨t.pw a :: r, n, e⟩ [b] = ⟨r, n, e⟩ := by
  show must1 _ b = _
  unfold must1
  rw [headW, isW_tk, if_pos h, tlW]
theorem take_tk (t : Tk) (a : Nat) (r : List Pw) (n e k : Int) (h : t.k = k) : takeP ⟨t.pw a :: r, n, e⟩ k = (t.pw a, ⟨r, n, e⟩) := by
  unfold takeP
  rw [headW, if_pos (show (t.pw a).k = k from h), tlW]
theorem name_no (t : Tk) (h : t.k ≠ 5 ∧ t.k ≠ 4) (b : ByteArray) : isTk t b = false := by simp [isTk, h.1, h.2]
theorem opF_tk (t : Tk) (a : Nat) (r : List Pw) (n : Int) : ∀ (l : List ByteArray) (i : Int) (j : Nat), (∀ m, m < j → ∀ b, l[m]? = some b → isTk t b = false) → (∃ b, l[j]? = some b ∧ isTk t b = true) → opF l i ⟨t.pw a :: r, n, 0⟩ = (i + j, ⟨r, n, 0⟩)
  | [], i, j, _, ⟨b, hb, _⟩ => by simp at hb
  | x :: l, i, 0, _, ⟨b, hb, ht⟩ => by
    simp at hb; subst hb
    unfold opF
    rw [headW, isW_tk, if_pos ht, tlW]; simp
  | x :: l, i, j + 1, h0, ⟨b, hb, ht⟩ => by
    have hx := h0 0 (by omega) x rfl
    unfold opF
    rw [headW, isW_tk, if_neg (by rw [hx]; decide)]
    rw [opF_tk t a r n l (i + 1) j (fun m hm b hb => h0 (m + 1) (by omega) b (by simpa using hb)) ⟨b, by simpa using hb, ht⟩]
    congr 1
    omega
theorem op_parse {o : Int} (h3 : 3 ≤ o) (h11 : o ≤ 11) (a : Nat) (r : List Pw) (n : Int) : opP ⟨(opTk o).pw a :: r, n, 0⟩ = (o, ⟨r, n, 0⟩) := by
  have key : ∀ j : Nat, j < 9 → (∀ m, m < j → ∀ b, psigns[m]? = some b → isTk (opTk (3 + j)) b = false) ∧ ∃ b, psigns[j]? = some b ∧ isTk (opTk (3 + j)) b = true := by
    intro j hj
    have h1 : ∀ j : Nat, j < 9 → ∀ m : Nat, m < j → ((psigns[m]?).map fun b => isTk (opTk (3 + (j : Int))) b) = some false := by decide +kernel
    have h2 : ∀ j : Nat, j < 9 → ((psigns[j]?).map fun b => isTk (opTk (3 + (j : Int))) b) = some true := by decide +kernel
    refine ⟨fun m hm b hb => ?_, ?_⟩
    · have := h1 j hj m hm
      rw [hb] at this
      simpa using this
    · have := h2 j hj
      cases hb : psigns[j]? with
      | none => rw [hb] at this; cases this
      | some b => rw [hb] at this; exact ⟨b, rfl, by simpa using this⟩
  obtain ⟨j, hj, rfl⟩ : ∃ j : Nat, j < 9 ∧ o = 3 + j := ⟨(o - 3).toNat, by omega, by omega⟩
  obtain ⟨k1, k2⟩ := key j hj
  exact opF_tk _ a r n psigns 3 j k1 k2

/-- The first word of a condition: which it is not. -/
theorem cond_first {t : Tree} (h : Shp t) : ∃ k r, condI t = .tk k :: r ∧ isTk k noB = false := by
  cases h with
  | int n h0 h1 => exact ⟨_, _, condI_lit _ rfl, rfl⟩
  | str s h => exact ⟨_, _, condI_lit _ rfl, rfl⟩
  | bool n h =>
    refine ⟨_, _, condI_lit _ rfl, ?_⟩
    rcases h with rfl | rfl <;> decide +kernel
  | fld a f ha hf => exact ⟨_, _, condI_fld a f, rfl⟩
  | not x hx => exact ⟨_, _, condI_not x, by decide +kernel⟩
  | two o h3 h11 x y hx hy => exact ⟨_, _, condI_two h3 h11 x y, by decide +kernel⟩

theorem litB_tk (t : Tk) (a : Nat) : litB (t.pw a) = (decide (t.k = 2) || decide (t.k = 3) || isTk t trB || isTk t faB) := by
  unfold litB; rw [isW_tk, isW_tk]; rfl
theorem litV_gr (t : Txt) (a : Nat) : litV ((Tk.gr t).pw a) = if isTk (.gr t) trB then (3, 1, t0) else if isTk (.gr t) faB then (3, 0, t0) else (0, 0, t0) := by
  unfold litV; rw [isW_tk, isW_tk]; rfl
/-- What a literal's word tells. -/
theorem lit_word (k : Tk) (a : Nat) (d : Dat) (hb : litB (k.pw a) = true) (hd : litD (k.pw a) = d) (f : Nat) (n nd : Int) (r : List Pw) (h5 : ¬ (5 < n ∨ 24 < nd + 1)) :
    nodeF (f + 1) n ⟨k.pw a :: r, nd, 0⟩ = (.mk d [], ⟨r, nd + 1, 0⟩) := by
  unfold nodeF
  simp only [headW]
  rw [if_neg (by rw [hb]; simp), if_neg h5, if_pos hb, hd]
  have := take_tk k a r (nd + 1) 0 (k.pw a).k rfl
  rw [this]
theorem node_open (a : Nat) (g : Nat) (m nd : Int) (r : List Pw) (h5 : ¬ (5 < m ∨ 24 < nd + 1)) :
    nodeF (g + 1) m ⟨(Tk.sg (txw [40])).pw a :: r, nd, 0⟩ =
      if isW (Ps.mk r (nd + 1) 0).head noB then (.mk (dOp 12) [(nodeF g (m + 1) (Ps.mk r (nd + 1) 0).tl).1], mustP (nodeF g (m + 1) (Ps.mk r (nd + 1) 0).tl).2 [cB])
      else (.mk (dOp (opP (nodeF g (m + 1) ⟨r, nd + 1, 0⟩).2).1) [(nodeF g (m + 1) ⟨r, nd + 1, 0⟩).1, (nodeF g (m + 1) (opP (nodeF g (m + 1) ⟨r, nd + 1, 0⟩).2).2).1], mustP (nodeF g (m + 1) (opP (nodeF g (m + 1) ⟨r, nd + 1, 0⟩).2).2).2 [cB]) := by
  have hl : litB ((Tk.sg (txw [40])).pw a) = false := by
    rw [litB_tk]; decide +kernel
  have ho : isW ((Tk.sg (txw [40])).pw a) oB = true := by rw [isW_tk]; decide +kernel
  have hk5 : ¬ ((Tk.sg (txw [40])).pw a).k = 1 := fun q => absurd (show (5 : Int) = 1 from q) (by decide)
  conv => lhs; unfold nodeF
  simp only [headW, must_tk (Tk.sg (txw [40])) a r (nd + 1) 0 oB (by decide +kernel)]
  rw [if_neg (fun q => by rw [ho] at q; exact absurd q.2.2 (by decide)), if_neg h5, if_neg (by rw [hl]; decide), if_neg hk5]
theorem node_parse {t : Tree} (h : Shp t) : ∀ (m f : Nat) (nd : Int) (a : Nat) (more : List Pw), shapedT m t = true → 7 ≤ f + m → nd + cntT (21 - m) t ≤ 24 →
    nodeF f m ⟨toksI a (condI t) ++ more, nd, 0⟩ = (t, ⟨more, nd + cntT (21 - m) t, 0⟩) := by
  have one : ∀ (m : Nat) (d : Dat), d.op ≠ 0 → m ≤ 5 → cntT (21 - m) (.mk d []) = 1 := by
    intro m d hd hm
    rw [cntT, if_neg (by omega), cntL]
  have lit : ∀ (d : Dat) (m f : Nat) (nd : Int) (a : Nat) (more : List Pw), d.op = 1 → (∀ a, litB ((litTk d).pw a) = true) → (∀ a, litD ((litTk d).pw a) = d) → shapedT m (.mk d []) = true → 7 ≤ f + m → nd + cntT (21 - m) (.mk d []) ≤ 24 →
      nodeF f m ⟨toksI a (condI (.mk d [])) ++ more, nd, 0⟩ = (.mk d [], ⟨more, nd + cntT (21 - m) (.mk d []), 0⟩) := by
    intro d m f nd a more ho hb hd hs hf hn
    rw [shapedT, Bool.and_eq_true, Bool.and_eq_true, decide_eq_true_eq] at hs
    rw [one m d (by omega) hs.1.1] at hn ⊢
    obtain ⟨g, rfl⟩ : ∃ g, f = g + 1 := ⟨f - 1, by omega⟩
    rw [condI_lit d ho]
    exact lit_word (litTk d) a d (hb a) (hd a) g m nd more (by omega)
  induction h with
  | int n h0 h1 => intro m f nd a more; exact lit _ m f nd a more rfl (fun _ => rfl) (fun _ => rfl)
  | str s h => intro m f nd a more; exact lit _ m f nd a more rfl (fun _ => rfl) (fun _ => rfl)
  | bool n h =>
    intro m f nd a more
    rcases h with rfl | rfl
    · refine lit _ m f nd a more rfl (fun a => ?_) (fun a => ?_)
      · show litB ((Tk.gr (txw [70, 65, 76, 83, 69])).pw a) = true
        rw [litB_tk]; decide +kernel
      · show litD ((Tk.gr (txw [70, 65, 76, 83, 69])).pw a) = _
        unfold litD
        rw [litV_gr, if_neg (by decide +kernel), if_pos (by decide +kernel)]
    · refine lit _ m f nd a more rfl (fun a => ?_) (fun a => ?_)
      · show litB ((Tk.gr (txw [84, 82, 85, 69])).pw a) = true
        rw [litB_tk]; decide +kernel
      · show litD ((Tk.gr (txw [84, 82, 85, 69])).pw a) = _
        unfold litD
        rw [litV_gr, if_pos (by decide +kernel)]
  | fld al fd ha hf =>
    intro m f nd a more hs hfm hn
    rw [shapedT, Bool.and_eq_true, Bool.and_eq_true, decide_eq_true_eq] at hs
    rw [one m _ (by simp) hs.1.1] at hn ⊢
    obtain ⟨g, rfl⟩ : ∃ g, f = g + 1 := ⟨f - 1, by omega⟩
    rw [condI_fld]
    have e : toksI a [.tk (.nm al), dotI, .tk (.nm fd)] ++ more = (Tk.nm al).pw a :: (Tk.sg (txw [46])).pw (a + (Tk.nm al).by.length) :: (Tk.nm fd).pw (a + (Tk.nm al).by.length + (Tk.sg (txw [46])).by.length) :: more := rfl
    rw [e]
    have hl : litB ((Tk.nm al).pw a) = false := by
      rw [litB_tk, name_no _ ⟨by simp [Tk.k], by simp [Tk.k]⟩, name_no _ ⟨by simp [Tk.k], by simp [Tk.k]⟩]; rfl
    have hk1 : ((Tk.nm al).pw a).k = 1 := rfl
    unfold nodeF
    simp only [headW]
    rw [if_neg (fun q => q.2.1 hk1), if_neg (by omega), if_neg (by rw [hl]; decide), if_pos hk1]
    unfold fieldP
    rw [take_tk (Tk.nm al) a _ _ _ 1 rfl]
    simp only
    rw [must_tk _ _ _ _ _ doB (by decide +kernel), take_tk (Tk.nm fd) _ _ _ _ 1 rfl]
    rfl
  | not x hx ih =>
    intro m f nd a more hs hfm hn
    rw [shapedT, Bool.and_eq_true, Bool.and_eq_true, decide_eq_true_eq, shapedL, Bool.and_eq_true] at hs
    obtain ⟨g, rfl⟩ : ∃ g, f = g + 1 := ⟨f - 1, by omega⟩
    have hc : cntT (21 - m) (.mk (dOp 12) [x]) = 1 + cntT (21 - (m + 1)) x := by
      rw [cntT, if_neg (by simp; omega), cntL, cntL, show 21 - m - 1 = 21 - (m + 1) by omega]; omega
    rw [hc] at hn ⊢
    rw [condI_not]
    have e : toksI a (opn :: notI :: .bl :: (condI x ++ [cls])) ++ more = (Tk.sg (txw [40])).pw a :: (Tk.gr (txw [78, 79, 84])).pw (a + (Tk.sg (txw [40])).by.length) :: (toksI (a + (Tk.sg (txw [40])).by.length + (Tk.gr (txw [78, 79, 84])).by.length + 1) (condI x) ++ ((Tk.sg (txw [41])).pw (a + (Tk.sg (txw [40])).by.length + (Tk.gr (txw [78, 79, 84])).by.length + 1 + (flatI (condI x)).length) :: more)) := by
      show _ :: _ :: (toksI _ (condI x ++ [cls]) ++ more) = _
      rw [toksI_append, List.append_assoc]; rfl
    rw [e, node_open a g m nd _ (by omega)]
    rw [headW, isW_tk, if_pos (by decide +kernel), tlW]
    have hx2 := ih (m + 1) g (nd + 1) (a + (Tk.sg (txw [40])).by.length + (Tk.gr (txw [78, 79, 84])).by.length + 1) ((Tk.sg (txw [41])).pw (a + (Tk.sg (txw [40])).by.length + (Tk.gr (txw [78, 79, 84])).by.length + 1 + (flatI (condI x)).length) :: more) hs.2.1 (by omega) (by omega)
    rw [show ((m + 1 : Nat) : Int) = (m : Int) + 1 by omega] at hx2
    rw [hx2]
    simp only
    rw [must_tk _ _ _ _ _ cB (by decide +kernel)]
    congr 2
    omega
  | two o h3 h11 x y hx hy ihx ihy =>
    intro m f nd a more hs hfm hn
    rw [shapedT, Bool.and_eq_true, Bool.and_eq_true, decide_eq_true_eq, shapedL, Bool.and_eq_true, shapedL, Bool.and_eq_true] at hs
    obtain ⟨g, rfl⟩ : ∃ g, f = g + 1 := ⟨f - 1, by omega⟩
    have hc : cntT (21 - m) (.mk (dOp o) [x, y]) = 1 + (cntT (21 - (m + 1)) x + cntT (21 - (m + 1)) y) := by
      rw [cntT, if_neg (by simp; omega), cntL, cntL, cntL, show 21 - m - 1 = 21 - (m + 1) by omega]; omega
    rw [hc] at hn ⊢
    rw [condI_two h3 h11]
    obtain ⟨k1, r1, ek, hk⟩ := cond_first hx
    obtain ⟨b1, hb1⟩ : ∃ b1, b1 = a + (Tk.sg (txw [40])).by.length := ⟨_, rfl⟩
    obtain ⟨b2, hb2⟩ : ∃ b2, b2 = b1 + (flatI (condI x)).length + 1 := ⟨_, rfl⟩
    obtain ⟨b3, hb3⟩ : ∃ b3, b3 = b2 + (opTk o).by.length + 1 := ⟨_, rfl⟩
    obtain ⟨b4, hb4⟩ : ∃ b4, b4 = b3 + (flatI (condI y)).length := ⟨_, rfl⟩
    have e : toksI a (opn :: (condI x ++ .bl :: .tk (opTk o) :: .bl :: (condI y ++ [cls]))) ++ more = (Tk.sg (txw [40])).pw a :: (toksI b1 (condI x) ++ ((opTk o).pw b2 :: (toksI b3 (condI y) ++ ((Tk.sg (txw [41])).pw b4 :: more)))) := by
      show _ :: (toksI _ (condI x ++ .bl :: .tk (opTk o) :: .bl :: (condI y ++ [cls])) ++ more) = _
      rw [toksI_append, List.append_assoc, hb4, hb3, hb2, hb1]
      congr 2
      show _ :: (toksI _ (condI y ++ [cls]) ++ more) = _
      rw [toksI_append, List.append_assoc]; rfl
    rw [e, node_open a g m nd _ (by omega)]
    have hno : isW (Ps.mk (toksI b1 (condI x) ++ ((opTk o).pw b2 :: (toksI b3 (condI y) ++ ((Tk.sg (txw [41])).pw b4 :: more)))) (nd + 1) 0).head noB = false := by
      rw [ek]
      show isW (k1.pw b1) noB = false
      rw [isW_tk]; exact hk
    rw [if_neg (by rw [hno]; decide)]
    have hx2 := ihx (m + 1) g (nd + 1) b1 ((opTk o).pw b2 :: (toksI b3 (condI y) ++ ((Tk.sg (txw [41])).pw b4 :: more))) hs.2.1 (by omega) (by omega)
    rw [show ((m + 1 : Nat) : Int) = (m : Int) + 1 by omega] at hx2
    rw [hx2]
    simp only
    rw [op_parse h3 h11]
    simp only
    have hy2 := ihy (m + 1) g (nd + 1 + cntT (21 - (m + 1)) x) b3 ((Tk.sg (txw [41])).pw b4 :: more) hs.2.2.1 (by omega) (by omega)
    rw [show ((m + 1 : Nat) : Int) = (m : Int) + 1 by omega] at hy2
    rw [hy2]
    simp only
    rw [must_tk _ _ _ _ _ cB (by decide +kernel)]
    congr 2
    omega
end Go.Proofs.YtfofpenajkaalaaDoor

namespace Go.Proofs.YtfofpenajkaalaaDoor
open Go.RowKit Go.Shelf

abbrev sgI (l : List UInt8) (h : l.length ≤ maxLen := by decide) : It := .tk (.sg (txw l h))
abbrev grI (l : List UInt8) (h : l.length ≤ maxLen := by decide) : It := .tk (.gr (txw l h))
def typesI : List Txt → List It
  | [] => []
  | [t] => [.tk (.nm t)]
  | t :: r => .tk (.nm t) :: sgI [124] :: typesI r
def askI (t : Tree) : List It := if t.dat.op = 0 then [] else sgI [91] :: (condI t ++ [sgI [93]])
def ntI (b : Bool) : List It := if b then [sgI [33]] else []
def plI (b : Bool) : List It := if b then [sgI [43]] else []
def elemI (e : Em) : List It := ntI e.nt ++ .tk (.nm e.al) :: sgI [58] :: (typesI e.ts ++ (plI e.pl ++ askI e.t))
def rowI : List Em → List It
  | [] => []
  | [e] => elemI e
  | e :: r => elemI e ++ sgI [44] :: .bl :: rowI r
def byI (t : Txt) : List It := if t.1.toList = [] then [] else [.bl, grI [66, 89], .bl, .tk (.nm t)]
def anyI (b : Bool) : List It := if b then [.bl, grI [65, 78, 89]] else []
def patI (q : Pt) : List It := grI [83, 69, 81] :: opn :: (rowI q.es ++ cls :: .bl :: grI [87, 73, 84, 72, 73, 78] :: .bl :: .tk (.nu q.wi) :: (byI q.nm ++ anyI q.any))

theorem types_flat : ∀ ts : List Txt, flatI (typesI ts) = (joinB ts).data.toList
  | [] => rfl
  | [t] => by simp [typesI, flatI, It.by, Tk.by, joinB, Lib.join, bl8]
  | t :: u :: r => by
    have ih := types_flat (u :: r)
    rw [typesI, flatI_tk, flatI_tk, ih]
    · simp [joinB, Lib.join, Tk.by, bl8]
    · simp

/-- What an element that may be is. -/
structure EmOk (e : Em) : Prop where
  al : nameB e.al.1 = true
  one : 1 ≤ e.ts.length
  few : e.ts.length ≤ 3
  ts : ∀ t ∈ e.ts, nameB t.1 = true
  c : e.t = e0 ∨ (Shp e.t ∧ shapedT 1 e.t = true ∧ cntT 20 e.t ≤ 24)
theorem same_e0 {t : Tree} (h : sameT t (.mk d0 []) = true) : t = e0 := by
  obtain ⟨⟨op, k, n, s, al, fd⟩, ks⟩ := t
  simp only [sameT, sameD, Bool.and_eq_true, decide_eq_true_eq] at h
  obtain ⟨⟨⟨⟨h1, h2, h3, h4⟩, h5⟩, h6⟩, h7, -⟩ := h
  obtain rfl : ks = [] := List.eq_nil_of_length_eq_zero h7
  have e1 : s = t0 := txt_nil (by rw [h4]; show (⟨#[]⟩ : ByteArray).toList.isEmpty = true; rw [nil_toList]; rfl)
  have e2 : al = t0 := txt_nil (by rw [eq_of_beq h5]; show (⟨#[]⟩ : ByteArray).toList.isEmpty = true; rw [nil_toList]; rfl)
  have e3 : fd = t0 := txt_nil (by rw [eq_of_beq h6]; show (⟨#[]⟩ : ByteArray).toList.isEmpty = true; rw [nil_toList]; rfl)
  subst e1 e2 e3 h1 h2 h3
  rfl
theorem elem_ok {e : Em} (hb : Bnd e.t) (h : elemB e = true) : EmOk e := by
  simp only [elemB, typesB, Bool.and_eq_true, Bool.or_eq_true, Bool.not_eq_true', decide_eq_true_eq] at h
  obtain ⟨⟨⟨h1, ⟨⟨h2, h3⟩, h4⟩, h5⟩, h6⟩, h7⟩ := h
  refine ⟨h1, h2, h3, noneNo h5, ?_⟩
  rcases h7 with h7 | h7
  · exact .inl (same_e0 h7)
  · have hs := isT_snd hb h7
    rw [isT_shaped, Bool.and_eq_true, decide_eq_true_eq] at h7
    exact .inr ⟨snd_shp hs, h7.1, h7.2⟩
theorem shp_op {t : Tree} (h : Shp t) : t.dat.op ≠ 0 := by
  cases h <;> simp
  omega
theorem ask_flat {e : Em} (h : EmOk e) : flatI (askI e.t) = flatB (askP e.t) := by
  rcases h.c with h | ⟨h, -, -⟩
  · rw [h]; rfl
  · have ho := shp_op h
    unfold askI askP
    rw [if_neg ho, if_neg ho, flatI_tk, flatI_append, flatI_tk, flatI_nil, cond_flat h]
    simp only [List.flatten_cons, List.flatten_nil, List.append_nil, flatB_append, flatB_one]
    rfl
theorem elem_flat {e : Em} (h : EmOk e) : flatI (elemI e) = flatB (elemP e) := by
  unfold elemI elemP
  rw [flatI_append, flatI_tk, flatI_tk, flatI_append, flatI_append, types_flat, ask_flat h]
  simp only [List.flatten_cons, List.flatten_nil, List.append_nil, flatB_append, flatB_cons]
  cases e.nt <;> cases e.pl <;> simp [ntI, plI, flatI, flatB, It.by, Tk.by, bl8]
theorem row_flat : ∀ (es : List Em), (∀ e ∈ es, EmOk e) → ∀ k : Nat, flatB ((es.zipIdx k).flatMap fun x => [if decide ((0 : Int) < x.2) then [csB] else [], elemP x.1]).flatten = (if k = 0 ∨ es = [] then [] else [44, 32]) ++ flatI (rowI es)
  | [], _, k => by simp [rowI, flatI, flatB]
  | e :: r, h, k => by
    have ih := row_flat r (fun x hx => h x (by simp [hx])) (k + 1)
    rw [List.zipIdx_cons, List.flatMap_cons, List.flatten_append, flatB_append, ih]
    have he := elem_flat (h e (by simp))
    simp only [List.flatten_cons, List.flatten_nil, List.append_nil, flatB_append]
    rw [← he]
    have hr : flatI (rowI (e :: r)) = flatI (elemI e) ++ ((if k + 1 = 0 ∨ r = [] then [] else [44, 32]) ++ flatI (rowI r)) := by
      cases r with
      | nil => simp [rowI, flatI]
      | cons x r => simp [rowI, flatI_append, flatI_tk, flatI_bl, Tk.by, bl8]
    rw [hr]
    have hc : flatB (if decide ((0 : Int) < (k : Nat)) then [csB] else []) = if k = 0 ∨ e :: r = [] then [] else [44, 32] := by
      by_cases hk : k = 0
      · simp [hk, flatB]
      · have h0 : (0 : Int) < (k : Int) := by omega
        rw [if_pos (by simpa using h0), if_neg (by simp [hk]), flatB_one]
    rw [hc]
    simp
theorem pat_flat {q : Pt} (h : ∀ e ∈ q.es, EmOk e) : flatI (patI q) = flatB (patP q) := by
  have hr := row_flat q.es h 0
  simp only [true_or, if_true, List.nil_append] at hr
  unfold patI patP
  rw [flatI_tk, flatI_tk, flatI_append, flatI_tk, flatI_bl, flatI_tk, flatI_bl, flatI_tk, flatI_append, ← hr]
  simp only [List.flatten_cons, List.flatten_nil, List.append_nil, flatB_append, flatB_cons, rowS]
  have hw : (Tk.nu q.wi).by = (itoaB q.wi).data.toList := by rw [← decB_itoa]; simp [Tk.by, decB]
  rw [hw]
  have hn : flatI (byI q.nm) = flatB (if !(q.nm.1.toList == []) then [byB, q.nm.1] else []) := by
    unfold byI
    by_cases hq : q.nm.1.toList = []
    · rw [if_pos hq, hq]; rfl
    · rw [if_neg hq, if_pos (by simpa using hq), flatI_bl, flatI_tk, flatI_bl, flatI_tk, flatI_nil, flatB_cons, flatB_one]
      simp [Tk.by, bl8]
  have ha : flatI (anyI q.any) = flatB (if q.any then [anyB] else []) := by cases q.any <;> simp [anyI, flatI, flatB, It.by, Tk.by, bl8]
  rw [hn, ha]
  simp [Tk.by, bl8, flatB]

/-! ### Each word is ended. -/
theorem endW_of {c : UInt8} {z : List UInt8} (h : inB 97 122 c.toNat = false ∧ inB 65 90 c.toNat = false ∧ inB 48 57 c.toNat = false) : endW (c :: z) := endW_one h
/-- What follows an element. -/
def endE (z : List UInt8) : Prop := ∃ c r, z = c :: r ∧ (c = 44 ∨ c = 41)
theorem types_good : ∀ ts : List Txt, (∀ t ∈ ts, nameB t.1 = true) → ∀ z, endW z → goodI (typesI ts) z
  | [], _, _, _ => trivial
  | [t], h, z, hz => ⟨h t (by simp), hz, trivial⟩
  | t :: u :: r, h, z, hz => by
    refine ⟨h t (by simp), ?_, soft_ok (by decide), soft_stop (by decide) _, types_good (u :: r) (fun x hx => h x (by simp [hx])) z hz⟩
    rw [flatI_tk]
    exact endW_one (c := 124) (by decide)
theorem ask_good {e : Em} (h : EmOk e) (z : List UInt8) : goodI (askI e.t) z := by
  rcases h.c with h | ⟨h, -, -⟩
  · rw [h]; exact trivial
  · unfold askI
    rw [if_neg (shp_op h)]
    refine ⟨soft_ok (by decide), soft_stop (by decide) _, ?_⟩
    rw [goodI_append]
    refine ⟨cond_good h _ ?_, soft_ok (by decide), soft_stop (by decide) _, trivial⟩
    rw [flatI_tk]
    exact endC_one (c := 93) (.inr (.inr rfl))
theorem elem_good2 {e : Em} (h : EmOk e) (z : List UInt8) (hz : endE z) : goodI (elemI e) z := by
  have hzW : endW z := by
    obtain ⟨c, r, rfl, hc⟩ := hz
    rcases hc with rfl | rfl
    · exact endW_one (by decide)
    · exact endW_one (by decide)
  have hask : endW (flatI (askI e.t) ++ z) := by
    rcases h.c with h | ⟨h, -, -⟩
    · rw [h]; exact hzW
    · unfold askI
      rw [if_neg (shp_op h), flatI_tk]
      exact endW_one (c := 91) (by decide)
  unfold elemI
  have hmain : goodI (.tk (.nm e.al) :: sgI [58] :: (typesI e.ts ++ (plI e.pl ++ askI e.t))) z := by
    refine ⟨h.al, ?_, soft_ok (by decide), soft_stop (by decide) _, ?_⟩
    · rw [flatI_tk]; exact endW_one (c := 58) (by decide)
    · rw [goodI_append, goodI_append]
      refine ⟨types_good _ h.ts _ ?_, ?_, ask_good h z⟩
      · cases e.pl
        · exact hask
        · rw [flatI_append]; exact endW_one (c := 43) (by decide)
      · cases e.pl
        · exact trivial
        · exact ⟨soft_ok (by decide), soft_stop (by decide) _, trivial⟩
  rw [goodI_append]
  refine ⟨?_, hmain⟩
  cases e.nt
  · exact trivial
  · refine ⟨hard_ok (by decide), .inr ?_, trivial⟩
    obtain ⟨c, r, e1, -⟩ := tk_head (.nm e.al) h.al
    have hal := h.al
    simp only [nameB, Bool.and_eq_true] at hal
    refine ⟨c, ?_, .inr ?_⟩
    · rw [flatI_tk, e1]; rfl
    · have hb : allB 97 122 (c :: r) = true := by rw [← e1]; exact hal.2
      simp only [allB, List.all_cons, Bool.and_eq_true] at hb
      exact hb.1
theorem row_good : ∀ es : List Em, (∀ e ∈ es, EmOk e) → ∀ z, endE z → goodI (rowI es) z
  | [], _, _, _ => trivial
  | [e], h, z, hz => elem_good2 (h e (by simp)) z hz
  | e :: u :: r, h, z, hz => by
    rw [rowI, goodI_append]
    · refine ⟨elem_good2 (h e (by simp)) _ ?_, soft_ok (by decide), soft_stop (by decide) _, row_good (u :: r) (fun x hx => h x (by simp [hx])) z hz⟩
      rw [flatI_tk]
      exact ⟨44, _, rfl, .inl rfl⟩
    · simp
/-- What a pattern that may be is. -/
structure PtOk (q : Pt) : Prop where
  es : ∀ e ∈ q.es, EmOk e
  some : q.es ≠ []
  few : q.es.length ≤ 5
  lo : 0 ≤ q.wi
  hi : q.wi ≤ 1000
  nm : q.nm.1.toList = [] ∨ nameB q.nm.1 = true
theorem pat_ok {q : Pt} (hb : ∀ e ∈ q.es, Bnd e.t) (h : patB q = true) : PtOk q := by
  obtain ⟨p1, p2, p3, p4, -⟩ := patB_parts h
  simp only [patB, rowB, Bool.and_eq_true, Bool.or_eq_true, decide_eq_true_eq] at h
  obtain ⟨⟨⟨⟨⟨-, h2⟩, -⟩, -⟩, -⟩, h5⟩ := h
  refine ⟨fun e he => elem_ok (hb e he) (p4 e he), ?_, p1, p2, p3, h5.imp List.isEmpty_iff.1 id⟩
  intro e
  rw [e] at h2
  cases h2
theorem pat_good2 {q : Pt} (h : PtOk q) : goodI (patI q) [] := by
  have hby : ∀ z, endW z → goodI (byI q.nm) z := by
    intro z hz
    unfold byI
    rcases h.nm with hn | hn
    · rw [if_pos hn]; exact trivial
    · split
      · exact trivial
      · refine ⟨gr_ok (by decide) (by decide) (by decide), ?_, hn, hz, trivial⟩
        rw [flatI_bl]; exact endW_one (c := 32) (by decide)
  have hany : goodI (anyI q.any) [] := by
    cases q.any
    · exact trivial
    · exact ⟨gr_ok (by decide) (by decide) (by decide), fun c hc => by simp [flatI] at hc, trivial⟩
  have hanyW : endW (flatI (anyI q.any) ++ []) := by
    cases q.any
    · intro c hc; simp [anyI, flatI] at hc
    · exact endW_one (c := 32) (by decide)
  have hbyW : endW (flatI (byI q.nm ++ anyI q.any) ++ []) := by
    unfold byI
    split
    · exact hanyW
    · exact endW_one (c := 32) (by decide)
  unfold patI
  refine ⟨gr_ok (by decide) (by decide) (by decide), ?_, soft_ok (by decide), soft_stop (by decide) _, ?_⟩
  · rw [flatI_tk]; exact endW_one (c := 40) (by decide)
  rw [goodI_append]
  refine ⟨row_good _ h.es _ ?_, soft_ok (by decide), soft_stop (by decide) _, gr_ok (by decide) (by decide) (by decide), ?_, ⟨by have := h.lo; omega, by have := h.hi; omega⟩, hbyW, ?_⟩
  · rw [flatI_tk]; exact ⟨41, _, rfl, .inr rfl⟩
  · rw [flatI_bl]; exact endW_one (c := 32) (by decide)
  · show goodI (byI q.nm ++ anyI q.any) []
    rw [goodI_append]
    refine ⟨hby _ hanyW, hany⟩

/-! ### The words are few. -/
theorem types_cnt : ∀ ts : List Txt, cntI (typesI ts) ≤ 2 * ts.length
  | [] => Nat.le_refl _
  | [t] => by simp [typesI, cntI]
  | t :: u :: r => by
    have := types_cnt (u :: r)
    rw [typesI, cntI_tk, cntI_tk]
    · simp at this ⊢; omega
    · simp
theorem elem_cnt {e : Em} (h : EmOk e) : cntI (elemI e) ≤ 84 := by
  have h1 := types_cnt e.ts
  have h2 := h.few
  have h3 : cntI (askI e.t) ≤ 74 := by
    rcases h.c with h | ⟨h, hs, hc⟩
    · rw [h]; show (0 : Nat) ≤ 74; omega
    · unfold askI
      rw [if_neg (shp_op h), cntI_tk, cntI_append, cntI_tk]
      have h7 := cond_cnt h 1 hs
      rw [show 21 - 1 = 20 from rfl] at h7
      have : cntI [] = 0 := rfl
      omega
  have h4 : cntI (ntI e.nt) ≤ 1 := by cases e.nt <;> simp [ntI, cntI]
  have h5 : cntI (plI e.pl) ≤ 1 := by cases e.pl <;> simp [plI, cntI]
  unfold elemI
  rw [cntI_append, cntI_tk, cntI_tk, cntI_append, cntI_append]
  omega
theorem row_cnt : ∀ es : List Em, (∀ e ∈ es, EmOk e) → cntI (rowI es) ≤ 85 * es.length
  | [], _ => Nat.le_refl _
  | [e], h => by have := elem_cnt (h e (by simp)); simp only [rowI, List.length_cons, List.length_nil]; omega
  | e :: u :: r, h => by
    have h1 := elem_cnt (h e (by simp))
    have h2 := row_cnt (u :: r) (fun x hx => h x (by simp [hx]))
    rw [rowI, cntI_append, cntI_tk, cntI_bl]
    · simp only [List.length_cons] at h2 ⊢; omega
    · simp
theorem pat_cnt {q : Pt} (h : PtOk q) : cntI (patI q) ≤ 500 := by
  have h1 := row_cnt q.es h.es
  have h2 := h.few
  have h3 : cntI (byI q.nm) ≤ 2 := by unfold byI; split <;> simp [cntI]
  have h4 : cntI (anyI q.any) ≤ 1 := by cases q.any <;> simp [anyI, cntI]
  unfold patI
  rw [cntI_tk, cntI_tk, cntI_append, cntI_tk, cntI_bl, cntI_tk, cntI_bl, cntI_tk, cntI_append]
  omega
end Go.Proofs.YtfofpenajkaalaaDoor

namespace Go.Proofs.YtfofpenajkaalaaDoor
open Go.RowKit Go.Shelf

theorem eat_yes (t : Tk) (a : Nat) (r : List Pw) (n e : Int) (b : ByteArray) (h : isTk t b = true) : eatP ⟨t.pw a :: r, n, e⟩ b = (true, ⟨r, n, e⟩) := by
  unfold eatP
  rw [headW, isW_tk, if_pos h, tlW]
theorem eat_no (w : Pw) (r : List Pw) (n e : Int) (b : ByteArray) (h : isW w b = false) : eatP ⟨w :: r, n, e⟩ b = (false, ⟨w :: r, n, e⟩) := by
  unfold eatP
  rw [headW, if_neg (by rw [h]; decide)]
theorem name_tk (t : Txt) (a : Nat) (r : List Pw) (n e : Int) : nameP ⟨(Tk.nm t).pw a :: r, n, e⟩ = (t, ⟨r, n, e⟩) := by
  unfold nameP
  rw [take_tk (Tk.nm t) a r n e 1 rfl]
  rfl
theorem types_parse : ∀ (ts : List Txt), ts ≠ [] → ∀ (a : Nat) (w : Pw) (more : List Pw) (nd : Int), isW w brB = false → partsP nameP brB ⟨toksI a (typesI ts) ++ w :: more, nd, 0⟩ = (ts, ⟨w :: more, nd, 0⟩)
  | [], h, _, _, _, _, _ => absurd rfl h
  | [t], _, a, w, more, nd, hw => by
    rw [partsP_eq nameP brB nameP_len]
    have e : toksI a (typesI [t]) ++ w :: more = (Tk.nm t).pw a :: w :: more := rfl
    rw [e, name_tk]
    simp only
    rw [headW, if_neg (by rw [hw]; decide)]
  | t :: u :: r, _, a, w, more, nd, hw => by
    rw [partsP_eq nameP brB nameP_len]
    have e : toksI a (typesI (t :: u :: r)) ++ w :: more = (Tk.nm t).pw a :: (Tk.sg (txw [124])).pw (a + (Tk.nm t).by.length) :: (toksI (a + (Tk.nm t).by.length + (Tk.sg (txw [124])).by.length) (typesI (u :: r)) ++ w :: more) := by
      rw [typesI]
      · rfl
      · simp
    rw [e, name_tk]
    simp only
    rw [headW, isW_tk, if_pos (by decide +kernel), tlW, types_parse (u :: r) (by simp) _ w more nd hw]
/-- What stands behind an element. -/
def sepK (k : Tk) : Prop := k = .sg (txw [44]) ∨ k = .sg (txw [41])
theorem sep_no {k : Tk} (h : sepK k) (a : Nat) : isW (k.pw a) brB = false ∧ isW (k.pw a) psB = false ∧ isW (k.pw a) sqoB = false := by
  rw [isW_tk, isW_tk, isW_tk]
  rcases h with rfl | rfl <;> decide +kernel
theorem elem_parse {e : Em} (h : EmOk e) (k : Tk) (hk : sepK k) (a b : Nat) (more : List Pw) (nd : Int) : ∃ nd', elemQ ⟨toksI a (elemI e) ++ k.pw b :: more, nd, 0⟩ = (e, ⟨k.pw b :: more, nd', 0⟩) := by
  obtain ⟨al, ts, pl, nt, t⟩ := e
  obtain ⟨s1, s2, s3⟩ := sep_no hk b
  have hne : ts ≠ [] := by intro e; have := h.one; rw [e] at this; simp at this
  -- the condition's end
  have hcond : ∀ (c : Nat) (nd : Int) (al : Txt) (ts : List Txt) (pl nt : Bool), ∃ nd',
      (let q := eatP ⟨toksI c (askI t) ++ k.pw b :: more, nd, 0⟩ sqoB
       if q.1 then ((⟨al, ts, pl, nt, (condF q.2).1⟩ : Em), mustP (condF q.2).2 [sqcB]) else (⟨al, ts, pl, nt, e0⟩, q.2)) = ((⟨al, ts, pl, nt, t⟩ : Em), ⟨k.pw b :: more, nd', 0⟩) := by
    intro c nd al ts pl nt
    rcases h.c with h0 | ⟨h0, hs, hc⟩
    · have ht : t = e0 := h0
      subst ht
      refine ⟨nd, ?_⟩
      have e : toksI c (askI e0) ++ k.pw b :: more = k.pw b :: more := rfl
      rw [e, eat_no _ _ _ _ _ s3]
      rfl
    · have ho := shp_op h0
      refine ⟨0 + cntT (21 - 1) t, ?_⟩
      have e : toksI c (askI t) ++ k.pw b :: more = (Tk.sg (txw [91])).pw c :: (toksI (c + (Tk.sg (txw [91])).by.length) (condI t) ++ ((Tk.sg (txw [93])).pw (c + (Tk.sg (txw [91])).by.length + (flatI (condI t)).length) :: k.pw b :: more)) := by
        unfold askI
        rw [if_neg ho]
        show _ :: (toksI _ (condI t ++ [sgI [93]]) ++ _) = _
        rw [toksI_append, List.append_assoc]; rfl
      rw [e, eat_yes _ _ _ _ _ _ (by decide +kernel)]
      simp only [if_true]
      have hn := node_parse h0 1 6 0 (c + (Tk.sg (txw [91])).by.length) ((Tk.sg (txw [93])).pw (c + (Tk.sg (txw [91])).by.length + (flatI (condI t)).length) :: k.pw b :: more) hs (by decide) (by have h24 : cntT 20 t ≤ 24 := hc; rw [show 21 - 1 = 20 from rfl]; omega)
      unfold condF
      simp only
      rw [show ((1 : Nat) : Int) = 1 from rfl] at hn
      rw [hn]
      simp only
      rw [must_tk _ _ _ _ _ sqcB (by decide +kernel)]
  -- the first word behind the types
  have hfirst : ∀ c : Nat, ∃ w r, toksI c (plI pl ++ askI t) ++ k.pw b :: more = w :: r ∧ isW w brB = false := by
    intro c
    cases pl
    · rcases h.c with h0 | ⟨h0, hs, hc⟩
      · have ht : t = e0 := h0
        subst ht
        exact ⟨_, _, rfl, s1⟩
      · have ho := shp_op h0
        refine ⟨(Tk.sg (txw [91])).pw c, toksI (c + (Tk.sg (txw [91])).by.length) (condI t ++ [sgI [93]]) ++ k.pw b :: more, ?_, ?_⟩
        · show toksI c (askI t) ++ _ = _
          unfold askI
          rw [if_neg ho]; rfl
        · rw [isW_tk]; decide +kernel
    · exact ⟨_, _, rfl, by rw [isW_tk]; decide +kernel⟩
  have main : ∀ (a : Nat) (nd : Int), ∃ nd',
      (let a' := nameP ⟨toksI a (.tk (.nm al) :: sgI [58] :: (typesI ts ++ (plI pl ++ askI t))) ++ k.pw b :: more, nd, 0⟩
       let ts' := partsP nameP brB (mustP a'.2 [clnB])
       let p := eatP ts'.2 psB
       let q := eatP p.2 sqoB
       if q.1 then ((⟨a'.1, ts'.1, p.1, nt, (condF q.2).1⟩ : Em), mustP (condF q.2).2 [sqcB]) else (⟨a'.1, ts'.1, p.1, nt, e0⟩, q.2)) = ((⟨al, ts, pl, nt, t⟩ : Em), ⟨k.pw b :: more, nd', 0⟩) := by
    intro a nd
    obtain ⟨c0, hc0⟩ : ∃ c, c = a + (Tk.nm al).by.length + (Tk.sg (txw [58])).by.length := ⟨_, rfl⟩
    obtain ⟨c1, hc1⟩ : ∃ c, c = c0 + (flatI (typesI ts)).length := ⟨_, rfl⟩
    have e : toksI a (.tk (.nm al) :: sgI [58] :: (typesI ts ++ (plI pl ++ askI t))) ++ k.pw b :: more = (Tk.nm al).pw a :: (Tk.sg (txw [58])).pw (a + (Tk.nm al).by.length) :: (toksI c0 (typesI ts) ++ (toksI c1 (plI pl ++ askI t) ++ k.pw b :: more)) := by
      rw [hc1, hc0]
      show _ :: _ :: (toksI _ (typesI ts ++ (plI pl ++ askI t)) ++ _) = _
      rw [toksI_append, List.append_assoc]
    rw [e, name_tk]
    simp only
    rw [must_tk _ _ _ _ _ clnB (by decide +kernel)]
    obtain ⟨w, r, ew, hw⟩ := hfirst c1
    rw [ew, types_parse ts hne c0 w r nd hw, ← ew]
    simp only
    cases pl
    · obtain ⟨nd', hnd⟩ := hcond c1 nd al ts false nt
      refine ⟨nd', ?_⟩
      have e2 : toksI c1 (plI false ++ askI t) ++ k.pw b :: more = toksI c1 (askI t) ++ k.pw b :: more := rfl
      rw [e2]
      have hps : eatP ⟨toksI c1 (askI t) ++ k.pw b :: more, nd, 0⟩ psB = (false, ⟨toksI c1 (askI t) ++ k.pw b :: more, nd, 0⟩) := by
        rcases h.c with h0 | ⟨h0, hs, hc⟩
        · have ht : t = e0 := h0
          subst ht
          exact eat_no _ _ _ _ _ s2
        · have ho := shp_op h0
          have e3 : toksI c1 (askI t) ++ k.pw b :: more = (Tk.sg (txw [91])).pw c1 :: (toksI (c1 + (Tk.sg (txw [91])).by.length) (condI t ++ [sgI [93]]) ++ k.pw b :: more) := by
            unfold askI
            rw [if_neg ho]; rfl
          rw [e3]
          exact eat_no _ _ _ _ _ (by rw [isW_tk]; decide +kernel)
      rw [hps]
      exact hnd
    · obtain ⟨nd', hnd⟩ := hcond (c1 + (Tk.sg (txw [43])).by.length) nd al ts true nt
      refine ⟨nd', ?_⟩
      have e2 : toksI c1 (plI true ++ askI t) ++ k.pw b :: more = (Tk.sg (txw [43])).pw c1 :: (toksI (c1 + (Tk.sg (txw [43])).by.length) (askI t) ++ k.pw b :: more) := rfl
      rw [e2, eat_yes _ _ _ _ _ _ (by decide +kernel)]
      exact hnd
  cases nt
  · obtain ⟨nd', hnd⟩ := main a nd
    refine ⟨nd', ?_⟩
    have hb : eatP ⟨toksI a (elemI ⟨al, ts, pl, false, t⟩) ++ k.pw b :: more, nd, 0⟩ bgB = (false, ⟨toksI a (.tk (.nm al) :: sgI [58] :: (typesI ts ++ (plI pl ++ askI t))) ++ k.pw b :: more, nd, 0⟩) := by
      exact eat_no ((Tk.nm al).pw a) _ _ _ _ (by rw [isW_tk, name_no _ ⟨by simp [Tk.k], by simp [Tk.k]⟩])
    unfold elemQ
    rw [hb]
    exact hnd
  · obtain ⟨nd', hnd⟩ := main (a + (Tk.sg (txw [33])).by.length) nd
    refine ⟨nd', ?_⟩
    have hb : eatP ⟨toksI a (elemI ⟨al, ts, pl, true, t⟩) ++ k.pw b :: more, nd, 0⟩ bgB = (true, ⟨toksI (a + (Tk.sg (txw [33])).by.length) (.tk (.nm al) :: sgI [58] :: (typesI ts ++ (plI pl ++ askI t))) ++ k.pw b :: more, nd, 0⟩) := by
      exact eat_yes (Tk.sg (txw [33])) a _ _ _ _ (by decide +kernel)
    unfold elemQ
    rw [hb]
    exact hnd
theorem row_parse : ∀ (es : List Em), es ≠ [] → (∀ e ∈ es, EmOk e) → ∀ (a b : Nat) (more : List Pw) (nd : Int), ∃ nd', partsP elemQ cmB ⟨toksI a (rowI es) ++ (Tk.sg (txw [41])).pw b :: more, nd, 0⟩ = (es, ⟨(Tk.sg (txw [41])).pw b :: more, nd', 0⟩)
  | [], h, _, _, _, _, _ => absurd rfl h
  | [e], _, h, a, b, more, nd => by
    obtain ⟨nd', hnd⟩ := elem_parse (h e (by simp)) (.sg (txw [41])) (.inr rfl) a b more nd
    refine ⟨nd', ?_⟩
    rw [partsP_eq elemQ cmB elemQ_len]
    show (if isW (elemQ ⟨toksI a (elemI e) ++ _, nd, 0⟩).2.head cmB then _ else _) = _
    rw [hnd]
    simp only
    rw [headW, isW_tk, if_neg (by decide +kernel)]
    show ([(elemQ ⟨toksI a (elemI e) ++ _, nd, 0⟩).1], (elemQ ⟨toksI a (elemI e) ++ _, nd, 0⟩).2) = _
    rw [hnd]
  | e :: u :: r, _, h, a, b, more, nd => by
    obtain ⟨c, hc⟩ : ∃ c, c = a + (flatI (elemI e)).length := ⟨_, rfl⟩
    have er : toksI a (rowI (e :: u :: r)) ++ (Tk.sg (txw [41])).pw b :: more = toksI a (elemI e) ++ (Tk.sg (txw [44])).pw c :: (toksI (c + (Tk.sg (txw [44])).by.length + 1) (rowI (u :: r)) ++ (Tk.sg (txw [41])).pw b :: more) := by
      rw [rowI, toksI_append, List.append_assoc, hc]
      · rfl
      · simp
    obtain ⟨nd1, h1⟩ := elem_parse (h e (by simp)) (.sg (txw [44])) (.inl rfl) a c (toksI (c + (Tk.sg (txw [44])).by.length + 1) (rowI (u :: r)) ++ (Tk.sg (txw [41])).pw b :: more) nd
    obtain ⟨nd2, h2⟩ := row_parse (u :: r) (by simp) (fun x hx => h x (by simp [hx])) (c + (Tk.sg (txw [44])).by.length + 1) b more nd1
    refine ⟨nd2, ?_⟩
    rw [er, partsP_eq elemQ cmB elemQ_len, h1]
    simp only
    rw [headW, isW_tk, if_pos (by decide +kernel), tlW, h2]
theorem pat_parse {q : Pt} (h : PtOk q) : ∃ nd', patternQ ⟨toksI 0 (patI q), 0, 0⟩ = (q, ⟨[], nd', 0⟩) := by
  obtain ⟨es, wi, nm, any⟩ := q
  obtain ⟨c0, hc0⟩ : ∃ c, c = 0 + (Tk.gr (txw [83, 69, 81])).by.length := ⟨_, rfl⟩
  obtain ⟨c1, hc1⟩ : ∃ c, c = c0 + (Tk.sg (txw [40])).by.length := ⟨_, rfl⟩
  obtain ⟨c2, hc2⟩ : ∃ c, c = c1 + (flatI (rowI es)).length := ⟨_, rfl⟩
  obtain ⟨c3, hc3⟩ : ∃ c, c = c2 + (Tk.sg (txw [41])).by.length + 1 := ⟨_, rfl⟩
  obtain ⟨c4, hc4⟩ : ∃ c, c = c3 + (Tk.gr (txw [87, 73, 84, 72, 73, 78])).by.length + 1 := ⟨_, rfl⟩
  obtain ⟨c5, hc5⟩ : ∃ c, c = c4 + (Tk.nu wi).by.length := ⟨_, rfl⟩
  have e : toksI 0 (patI ⟨es, wi, nm, any⟩) = (Tk.gr (txw [83, 69, 81])).pw 0 :: (Tk.sg (txw [40])).pw c0 :: (toksI c1 (rowI es) ++ (Tk.sg (txw [41])).pw c2 :: (Tk.gr (txw [87, 73, 84, 72, 73, 78])).pw c3 :: (Tk.nu wi).pw c4 :: toksI c5 (byI nm ++ anyI any)) := by
    rw [hc5, hc4, hc3, hc2, hc1, hc0]
    show _ :: _ :: toksI _ (rowI es ++ cls :: .bl :: grI [87, 73, 84, 72, 73, 78] :: .bl :: .tk (.nu wi) :: (byI nm ++ anyI any)) = _
    rw [toksI_append]; rfl
  obtain ⟨nd1, h1⟩ := row_parse es h.some h.es c1 c2 ((Tk.gr (txw [87, 73, 84, 72, 73, 78])).pw c3 :: (Tk.nu wi).pw c4 :: toksI c5 (byI nm ++ anyI any)) 0
  refine ⟨nd1, ?_⟩
  rw [e]
  unfold patternQ
  have hm : ∀ (s : Ps) (x y : ByteArray), mustP s [x, y] = mustP (mustP s [x]) [y] := fun _ _ _ => rfl
  rw [hm, must_tk _ _ _ _ _ seB (by decide +kernel), must_tk _ _ _ _ _ oB (by decide +kernel)]
  simp only
  rw [h1]
  simp only
  rw [hm, must_tk _ _ _ _ _ cB (by decide +kernel), must_tk _ _ _ _ _ withB (by decide +kernel), take_tk (Tk.nu wi) _ _ _ _ 2 rfl]
  simp only
  have hany : ∀ (c : Nat) (nd : Int), eatP ⟨toksI c (anyI any), nd, 0⟩ anB = (any, ⟨[], nd, 0⟩) := by
    intro c nd
    cases any
    · show eatP ⟨[], nd, 0⟩ anB = _
      unfold eatP
      rw [if_neg (by show ¬ isW pw0 anB = true; decide +kernel)]
    · show eatP ⟨(Tk.gr (txw [65, 78, 89])).pw (c + 1) :: [], nd, 0⟩ anB = _
      rw [eat_yes _ _ _ _ _ _ (by decide +kernel)]
  by_cases hn : nm.1.toList = []
  · have hb : eatP ⟨toksI c5 (byI nm ++ anyI any), nd1, 0⟩ byyB = (false, ⟨toksI c5 (anyI any), nd1, 0⟩) := by
      unfold byI
      rw [if_pos hn, List.nil_append]
      cases any
      · show eatP ⟨[], nd1, 0⟩ byyB = _
        unfold eatP
        rw [if_neg (by show ¬ isW pw0 byyB = true; decide +kernel)]; rfl
      · show eatP ⟨(Tk.gr (txw [65, 78, 89])).pw (c5 + 1) :: [], nd1, 0⟩ byyB = _
        rw [eat_no _ _ _ _ _ (by rw [isW_tk]; decide +kernel)]; rfl
    rw [hb]
    simp only [Bool.false_eq_true, if_false]
    rw [hany, show nm = t0 from txt_nil (List.isEmpty_iff.2 hn)]
    rfl
  · obtain ⟨c6, hc6⟩ : ∃ c, c = c5 + 1 + (Tk.gr (txw [66, 89])).by.length + 1 := ⟨_, rfl⟩
    have hb : eatP ⟨toksI c5 (byI nm ++ anyI any), nd1, 0⟩ byyB = (true, ⟨(Tk.nm nm).pw c6 :: toksI (c6 + (Tk.nm nm).by.length) (anyI any), nd1, 0⟩) := by
      unfold byI
      rw [if_neg hn, hc6]
      exact eat_yes (Tk.gr (txw [66, 89])) (c5 + 1) _ _ _ _ (by decide +kernel)
    rw [hb]
    simp only [if_true]
    rw [name_tk]
    simp only
    rw [hany]
    rfl

/-- What a condition's text is, read. -/
theorem expr_back {t : Tree} (hb : Bnd t) (h : isT t = true) : exprF (readP (exprB t)) = (t, 0) := by
  have hs := snd_shp (isT_snd hb h)
  have h2 := h
  rw [isT_shaped, Bool.and_eq_true, decide_eq_true_eq] at h2
  have hg := cond_good hs [] (fun c hc => by simp at hc)
  have hc : cntI (condI t) ≤ 500 := by
    have := cond_cnt hs 1 h2.1
    rw [show 21 - 1 = 20 from rfl] at this
    omega
  rw [exprB_yes h, txtB, ← cond_flat hs, read_items _ hg hc]
  have hn := node_parse hs 1 6 0 0 [] h2.1 (by decide) (by have : cntT (21 - 1) t ≤ 24 := h2.2; omega)
  rw [List.append_nil] at hn
  unfold exprF condF
  simp only
  rw [show ((1 : Nat) : Int) = 1 from rfl] at hn
  rw [hn]
  rfl
/-- What a pattern's text is, read. -/
theorem patt_back {q : Pt} (hb : ∀ e ∈ q.es, Bnd e.t) (h : patB q = true) : patF (readP (pattB q)) = (q, 0) := by
  have ho := pat_ok hb h
  obtain ⟨nd, hp⟩ := pat_parse ho
  rw [pattB_yes h, txtB, ← pat_flat ho.es, read_items _ (pat_good2 ho) (pat_cnt ho)]
  unfold patF
  rw [hp]
  simp only
  have hz : lastP (patB q) (endP ⟨[], nd, 0⟩) = ⟨[], nd, 0⟩ := by rw [h]; rfl
  rw [hz]
  rfl
end Go.Proofs.YtfofpenajkaalaaDoor

namespace Go.Proofs.YtfofpenajkaalaaDoor

theorem bytes_of_list {a b : ByteArray} (h : a.toList = b.toList) : a = b := by
  rw [ByteArray.toList_eq, ByteArray.toList_eq] at h
  exact eq_of_list h
theorem txt_of_list {a b : Txt} (h : a.1.toList = b.1.toList) : a = b := Subtype.ext (bytes_of_list h)
theorem sameD_eq {x y : Dat} (h : sameD x y = true) : x = y := by
  obtain ⟨op, k, n, s, al, fd⟩ := x
  obtain ⟨op', k', n', s', al', fd'⟩ := y
  simp only [sameD, Bool.and_eq_true, decide_eq_true_eq, beq_iff_eq] at h
  obtain ⟨⟨⟨h1, h2, h3, h4⟩, h5⟩, h6⟩ := h
  obtain rfl := txt_of_list h4
  obtain rfl := txt_of_list h5
  obtain rfl := txt_of_list h6
  subst h1 h2 h3
  rfl
mutual
theorem sameT_eq : ∀ t u : Tree, sameT t u = true → t = u
  | .mk d ks, .mk e ls, h => by
    simp only [sameT, Bool.and_eq_true, decide_eq_true_eq] at h
    rw [sameD_eq h.1, sameL_eq ks ls h.2.1 h.2.2]
theorem sameL_eq : ∀ ts us : List Tree, ts.length = us.length → sameL ts us = true → ts = us
  | [], [], _, _ => rfl
  | t :: ts, u :: us, hl, h => by
    simp only [sameL, Bool.and_eq_true] at h
    rw [sameT_eq t u h.1, sameL_eq ts us (by simpa using hl) h.2]
  | [], _ :: _, hl, _ => by simp at hl
  | _ :: _, [], hl, _ => by simp at hl
end
mutual
theorem sameT_self : ∀ t : Tree, sameT t t = true
  | .mk d ks => by simp [sameT, sameD, sameL_self ks]
theorem sameL_self : ∀ ks : List Tree, sameL ks ks = true
  | [] => by simp [sameL]
  | t :: ks => by simp [sameL, sameT_self t, sameL_self ks]
end
theorem allZ_self {α : Type} {f : α → α → Bool} (h : ∀ x, f x x = true) : ∀ l : List α, allZ f l l = true
  | [] => rfl
  | x :: l => by simp [allZ, h x, allZ_self h l]
theorem allZ_eq {α : Type} {f : α → α → Bool} (h : ∀ x y, f x y = true → x = y) : ∀ l m : List α, allZ f l m = true → l = m
  | [], [], _ => rfl
  | x :: l, y :: m, e => by
    simp only [allZ, Bool.and_eq_true] at e
    rw [h x y e.1, allZ_eq h l m e.2]
  | [], _ :: _, e => by simp [allZ] at e
  | _ :: _, [], e => by simp [allZ] at e
theorem sameE_self (x : Em) : sameE x x = true := by simp [sameE, sameTx, allZ_self, sameT_self]
theorem sameE_eq (x y : Em) (h : sameE x y = true) : x = y := by
  obtain ⟨al, ts, pl, nt, t⟩ := x
  obtain ⟨al', ts', pl', nt', t'⟩ := y
  simp only [sameE, sameTx, Bool.and_eq_true, beq_iff_eq] at h
  obtain ⟨h1, h2, h3, h4, h5⟩ := h
  obtain rfl := txt_of_list h1
  obtain rfl := allZ_eq (fun x y e => txt_of_list (eq_of_beq e)) _ _ h2
  obtain rfl := sameT_eq _ _ h5
  subst h3 h4
  rfl
theorem samePt_self (p : Pt) : samePt p p = true := by simp [samePt, allZ_self sameE_self]
theorem samePt_eq (p q : Pt) (h : samePt p q = true) : p = q := by
  obtain ⟨es, wi, nm, any⟩ := p
  obtain ⟨es', wi', nm', any'⟩ := q
  simp only [samePt, Bool.and_eq_true, beq_iff_eq] at h
  obtain ⟨-, h2, h3, h4, h5⟩ := h
  obtain rfl := txt_of_list h3
  obtain rfl := allZ_eq sameE_eq _ _ h5
  subst h2 h4
  rfl

/-- Two conditions' texts are the same just where the conditions are. -/
theorem exprs_apart {t u : Tree} (ht : Bnd t) (hu : Bnd u) (h : isT t = true) (k : isT u = true) : ((exprB t).toList == (exprB u).toList) = sameT t u := by
  rw [Bool.eq_iff_iff, beq_iff_eq]
  constructor
  · intro e
    have e1 := expr_back ht h
    rw [bytes_of_list e, expr_back hu k] at e1
    have e2 : u = t := congrArg Prod.fst e1
    rw [e2]; exact sameT_self t
  · intro e; rw [sameT_eq t u e]
/-- Two patterns' texts are the same just where the patterns are. -/
theorem patts_apart {p q : Pt} (hp : ∀ e ∈ p.es, Bnd e.t) (hq : ∀ e ∈ q.es, Bnd e.t) (h : patB p = true) (k : patB q = true) : ((pattB p).toList == (pattB q).toList) = samePt p q := by
  rw [Bool.eq_iff_iff, beq_iff_eq]
  constructor
  · intro e
    have e1 := patt_back hp h
    rw [bytes_of_list e, patt_back hq k] at e1
    have e2 : q = p := congrArg Prod.fst e1
    rw [e2]; exact samePt_self p
  · intro e; rw [samePt_eq p q e]

end Go.Proofs.YtfofpenajkaalaaDoor
