/-
  Words with blanks between, as plain lists: what is cut of them; a row of bytes in memory.
-/
import Derived.Test.YtgfaaeloppdkkaaDoorSignsP
import Derived.Test.YtgfaaeloppdkkaaDoorLaidV
namespace Go.Proofs.YtgfaaeloppdkkaaDoor
open Go.RowKit Go.Shelf

/-- The texts that WordBlanks writes: each with what is cut of it. -/
def tblT : List (List UInt8) := [[97], [97, 98, 99], [49, 50], [45, 55], [34, 120, 32, 121, 34], [83, 69, 81], [40], [41], [60, 61], [60], [33, 61], [43]]
def tblW : List (Int × List UInt8 × Int) := [(1, [97], 0), (1, [97, 98, 99], 0), (2, [], 12), (2, [], -7), (3, [120, 32, 121], 0), (4, [83, 69, 81], 0), (5, [40], 0), (5, [41], 0), (5, [60, 61], 0), (5, [60], 0), (5, [33, 61], 0), (5, [43], 0)]
def tT (k : Nat) : List UInt8 := tblT[k % 12]'(Nat.mod_lt _ (by decide))
def tW (k : Nat) : Int × List UInt8 × Int := tblW[k % 12]'(Nat.mod_lt _ (by decide))

theorem firstW_tbl0 : ∀ k : Fin 12, firstW (tblT[k.val]'k.isLt) = .word (tblW[k.val]'k.isLt).1 (tblW[k.val]'k.isLt).2.1 (tblW[k.val]'k.isLt).2.2 (tblT[k.val]'k.isLt).length := by decide +kernel
theorem firstW_tbl1 (r : List UInt8) : ∀ k (h : k < 12), firstW ((tblT[k]'h) ++ 32 :: r) = .word (tblW[k]'h).1 (tblW[k]'h).2.1 (tblW[k]'h).2.2 (tblT[k]'h).length
  | 0, _ => rfl
  | 1, _ => rfl
  | 2, _ => rfl
  | 3, _ => rfl
  | 4, _ => rfl
  | 5, _ => rfl
  | 6, _ => rfl
  | 7, _ => rfl
  | 8, _ => rfl
  | 9, _ => rfl
  | 10, _ => rfl
  | 11, _ => rfl
  | k + 12, h => by omega
/-- Nothing, or a blank first. -/
def blankL (r : List UInt8) : Prop := r = [] ∨ ∃ q, r = 32 :: q
theorem firstW_tbl (k : Nat) (r : List UInt8) (hr : blankL r) : firstW (tT k ++ r) = .word (tW k).1 (tW k).2.1 (tW k).2.2 (tT k).length := by
  rcases hr with rfl | ⟨q, rfl⟩
  · rw [List.append_nil]; exact firstW_tbl0 ⟨k % 12, Nat.mod_lt _ (by decide)⟩
  · exact firstW_tbl1 q (k % 12) (Nat.mod_lt _ (by decide))
theorem tT_head (k : Nat) : ∃ c q, tT k = c :: q ∧ c.toNat ≠ 32 := by
  have : ∀ m (h : m < 12), ∃ c q, tblT[m]'h = c :: q ∧ c.toNat ≠ 32
    | 0, _ => ⟨_, _, rfl, by decide⟩
    | 1, _ => ⟨_, _, rfl, by decide⟩
    | 2, _ => ⟨_, _, rfl, by decide⟩
    | 3, _ => ⟨_, _, rfl, by decide⟩
    | 4, _ => ⟨_, _, rfl, by decide⟩
    | 5, _ => ⟨_, _, rfl, by decide⟩
    | 6, _ => ⟨_, _, rfl, by decide⟩
    | 7, _ => ⟨_, _, rfl, by decide⟩
    | 8, _ => ⟨_, _, rfl, by decide⟩
    | 9, _ => ⟨_, _, rfl, by decide⟩
    | 10, _ => ⟨_, _, rfl, by decide⟩
    | 11, _ => ⟨_, _, rfl, by decide⟩
    | k + 12, h => by omega
  exact this _ _

/-- The text of some words, each with a blank ahead and so many behind. -/
def bText : List (Nat × Nat) → List UInt8
  | [] => []
  | (k, b) :: r => 32 :: (tT k ++ (List.replicate b 32 ++ bText r))
def bToks : Nat → List (Nat × Nat) → List Wd
  | _, [] => []
  | a, (k, b) :: r => .word (tW k).1 (tW k).2.1 (tW k).2.2 ((a + 1 : Nat) : Nat) :: bToks (a + 1 + (tT k).length + b) r
theorem bText_blank (l : List (Nat × Nat)) : blankL (bText l) := by
  cases l with
  | nil => exact .inl rfl
  | cons x r => exact .inr ⟨_, rfl⟩
theorem rep_blank (b : Nat) (r : List UInt8) (h : blankL r) : blankL (List.replicate b 32 ++ r) := by
  cases b with
  | zero => exact h
  | succ b => exact .inr ⟨_, rfl⟩
theorem restL_rep (b a : Nat) (r : List UInt8) : restL a (List.replicate b 32 ++ r) = restL (a + b) r := by
  induction b generalizing a with
  | zero => rfl
  | succ b ih =>
    rw [List.replicate_succ, List.cons_append, restL_blank a _ (by decide), ih]
    congr 1; omega
theorem restL_text (l : List (Nat × Nat)) : ∀ a, restL a (bText l) = bToks a l := by
  induction l with
  | nil => intro a; rfl
  | cons x r ih =>
    intro a
    obtain ⟨k, b⟩ := x
    have hf := firstW_tbl k (List.replicate b 32 ++ bText r) (rep_blank b _ (bText_blank r))
    obtain ⟨c, q, hc, hne⟩ := tT_head k
    show restL a (32 :: (tT k ++ (List.replicate b 32 ++ bText r))) = _
    rw [restL_blank a _ (by decide)]
    rw [hc, List.cons_append] at hf ⊢
    rw [restL_word (a + 1) hne hf]
    have hd : ((c :: (q ++ (List.replicate b 32 ++ bText r))).drop (c :: q).length) = List.replicate b 32 ++ bText r := by
      rw [← List.cons_append, List.drop_left]
    rw [hd, restL_rep, ih]
    simp only [bToks, hc]
theorem bToks_len (l : List (Nat × Nat)) : ∀ a, (bToks a l).length = l.length := by
  induction l with
  | nil => intro a; rfl
  | cons x r ih => intro a; obtain ⟨k, b⟩ := x; simp [bToks, ih]
theorem bToks_words (l : List (Nat × Nat)) : ∀ a, ∀ x ∈ bToks a l, isWord x = true := by
  induction l with
  | nil => intro a x hx; cases hx
  | cons y r ih =>
    intro a x hx
    obtain ⟨k, b⟩ := y
    simp only [bToks, List.mem_cons] at hx
    rcases hx with rfl | hx
    · rfl
    · exact ih _ x hx
/-- Where a word stands. -/
def bPos : Nat → List (Nat × Nat) → Nat → Nat
  | a, [], _ => a
  | a, _ :: _, 0 => a + 1
  | a, (k, b) :: r, j + 1 => bPos (a + 1 + (tT k).length + b) r j
theorem bToks_at (l : List (Nat × Nat)) : ∀ a j (h : j < l.length), (bToks a l)[j]? = some (.word (tW l[j].1).1 (tW l[j].1).2.1 (tW l[j].1).2.2 (bPos a l j : Nat)) := by
  induction l with
  | nil => intro a j h; simp at h
  | cons x r ih =>
    intro a j h
    obtain ⟨k, b⟩ := x
    cases j with
    | zero => rfl
    | succ j => exact ih _ j (by simpa using h)
theorem bPos_up (l : List (Nat × Nat)) : ∀ a j, j + 1 < l.length → bPos a l j < bPos a l (j + 1) := by
  induction l with
  | nil => intro a j h; simp at h
  | cons x r ih =>
    intro a j h
    obtain ⟨k, b⟩ := x
    cases j with
    | zero =>
      cases r with
      | nil => simp at h
      | cons y r => obtain ⟨k2, b2⟩ := y; show a + 1 < (a + 1 + (tT k).length + b) + 1; omega
    | succ j => exact ih _ j (by simpa using h)

/-- The cells of the j-th word of a row of words. -/
theorem cellsW_at (ts : List Wd) (hw : ∀ x ∈ ts, isWord x = true) : ∀ j (h : j < ts.length) (i : Nat), i < 4 → (cellsW ts)[j * 4 + i]? = (encC ts[j])[i]? := by
  induction ts with
  | nil => intro j h; simp at h
  | cons x r ih =>
    intro j h i hi
    have hx := hw x (by simp)
    have e : cellsW (x :: r) = encC x ++ cellsW r := by simp [cellsW]
    have hl : (encC x).length = 4 := by cases x with
      | word => rfl
      | bad => cases hx
    rw [e]
    cases j with
    | zero => rw [Nat.zero_mul, Nat.zero_add, List.getElem?_append_left (by omega)]; rfl
    | succ j =>
      rw [List.getElem?_append_right (by omega), hl, show (j + 1) * 4 + i - 4 = j * 4 + i by omega]
      exact ih (fun y hy => hw y (by simp [hy])) j (by simpa using h) i hi

/-- The slice v holds the bytes xs, in a block below n₀; or it is nil or empty and there are none. -/
def ByteS (n₀ : Nat) (W : World) (v : Value) (xs : List Int) : Prop :=
  (∃ a cap, v = .slice a 0 cap ∧ xs = []) ∨ ∃ b off cap, v = .slice (some ⟨b, off, none⟩) xs.length cap ∧ b < n₀ ∧ ∀ j (h : j < xs.length), W.cell? ⟨b, off + j, none⟩ = some (.int .u8 xs[j]) ∧ 0 ≤ xs[j] ∧ xs[j] ≤ 255
theorem ByteS.below {n₀ : Nat} {A B : World} (h : Below n₀ A B) {v : Value} {xs : List Int} : ByteS n₀ A v xs → ByteS n₀ B v xs
  | .inl e => .inl e
  | .inr ⟨b, off, cap, e, hb, hc⟩ => .inr ⟨b, off, cap, e, hb, fun j hj => ⟨(h.cell (p := ⟨b, off + j, none⟩) hb).trans (hc j hj).1, (hc j hj).2⟩⟩
theorem ByteS.form {n₀ : Nat} {W : World} {v : Value} {xs : List Int} (h : ByteS n₀ W v xs) : ∃ a cap, v = .slice a xs.length cap := by
  rcases h with ⟨a, cap, rfl, rfl⟩ | ⟨b, off, cap, rfl, _⟩
  · exact ⟨a, cap, rfl⟩
  · exact ⟨_, _, rfl⟩

end Go.Proofs.YtgfaaeloppdkkaaDoor
