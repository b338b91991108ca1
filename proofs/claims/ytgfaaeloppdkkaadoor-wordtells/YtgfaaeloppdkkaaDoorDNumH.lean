/-
  What the document's number answers: for every text and place where a number begins, in whatever world; nothing that lay is turned.
-/
import Derived.Test.YtgfaaeloppdkkaaDoorDNum
namespace Go.Proofs.YtgfaaeloppdkkaaDoor
open Go.RowKit Go.Shelf

theorem take_val (l : List UInt8) (j : Nat) (h : j < l.length) : valL 0 (l.take (j + 1)) = valL 0 (l.take j) * 10 + (l[j].toNat - 48) := by
  rw [List.take_succ_eq_append_getElem h, valL_append]; rfl
theorem take_val_le (l : List UInt8) (j : Nat) : valL 0 (l.take j) ≤ valL 0 l := by
  have : valL 0 l = valL (valL 0 (l.take j)) (l.drop j) := by rw [← valL_append, List.take_append_drop]
  rw [this]; exact valL_ge _ _

/-- A number's digits as they lie in the text: from a place 'b' on, what they spell 'V j' so far, 'N' of them; what they come to. -/
structure Digs (s : ByteArray) (b N : Nat) (V : Nat → Nat) : Prop where
  at_ : ∀ j, j < N → ∃ hb : b + j < s.size, 48 ≤ (s[b + j]'hb).toNat ∧ (s[b + j]'hb).toNat ≤ 57 ∧ V (j + 1) = V j * 10 + ((s[b + j]'hb).toNat - 48)
  out : ∀ hb : b + N < s.size, inB 48 57 (s[b + N]'hb).toNat = false
  zero : V 0 = 0
  le : b + N ≤ s.size
  top : ∀ j, V j ≤ V N
theorem digs_of (s : ByteArray) (b : Nat) (hb : b ≤ s.size) : Digs s b (leadL 48 57 (s.data.toList.drop b)).length (fun j => valL 0 ((leadL 48 57 (s.data.toList.drop b)).take j)) where
  at_ j h := by
    obtain ⟨hb, hi, he⟩ := lead_in 48 57 s b j h
    refine ⟨hb, ?_, ?_, ?_⟩
    · simp [inB] at hi; omega
    · simp [inB] at hi; omega
    · show valL 0 ((leadL 48 57 (s.data.toList.drop b)).take (j + 1)) = _
      rw [take_val _ _ h, he]
  out hb := lead_out 48 57 s b hb
  zero := rfl
  le := by
    have hl := leadL_len 48 57 (s.data.toList.drop b)
    have hq : s.data.toList.length = s.size := Array.length_toList (xs := s.data)
    rw [List.length_drop, hq] at hl
    omega
  top j := by
    show valL 0 ((leadL 48 57 (s.data.toList.drop b)).take j) ≤ valL 0 ((leadL 48 57 (s.data.toList.drop b)).take _)
    rw [List.take_length]
    exact take_val_le _ _

end Go.Proofs.YtgfaaeloppdkkaaDoor
