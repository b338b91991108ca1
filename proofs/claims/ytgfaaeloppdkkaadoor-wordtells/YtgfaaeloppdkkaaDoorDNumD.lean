/-
  What the document's number answers, of every text and place where a number begins; how words begin, by their bytes.
-/
import Derived.Test.YtgfaaeloppdkkaaDoorDNumC
import Derived.Test.YtgfaaeloppdkkaaDoorDNumE
import Derived.Test.YtgfaaeloppdkkaaDoorWFirst
namespace Go.Proofs.YtgfaaeloppdkkaaDoor
open Go.RowKit Go.Shelf

theorem head_drop (s : ByteArray) (at_ : Nat) (hat : at_ < s.size) : (s.data.toList.drop at_).head? = some s[at_] := by
  rw [List.head?_drop, List.getElem?_eq_getElem (by rw [Array.length_toList]; exact hat)]
  exact congrArg some (at_data s at_ hat)

theorem number25_c (s : ByteArray) (at_ : Nat) (hat : at_ < s.size) (hn : isNumL (s.data.toList.drop at_) = true) (w : World) (hs : s.size ≤ 281474976710656) :
    Calls Tryd.prog 25 #[.string s, .int .i64 at_] w fun e w' => e = .returned (encD (numW (s.data.toList.drop at_))) ∧ Below w.heap.size w w' := by
  have hh := head_drop s at_ hat
  have hw := numW_of _ hn
  by_cases h : s[at_].toNat = 45
  · have h45 : (s.data.toList.drop at_).head? = some 45 := by rw [hh]; congr 1; exact UInt8.toNat_inj.1 h
    have hm : minusL (s.data.toList.drop at_) = 1 := by rw [minusL, if_pos h45]
    rw [hm, if_pos h45, if_pos h45, List.drop_drop] at hw
    exact number25_neg s at_ _ _ hat (digs_of s (at_ + 1) (by omega)) h _ (by rw [hw, List.take_length]) w hs
  · have h45 : ¬ (s.data.toList.drop at_).head? = some 45 := by rw [hh]; intro e; exact h (by rw [Option.some.inj e]; rfl)
    have hm : minusL (s.data.toList.drop at_) = 0 := by rw [minusL, if_neg h45]
    rw [hm, if_neg h45, if_neg h45, List.drop_zero] at hw
    exact number25_pos s at_ _ _ hat (digs_of s at_ (by omega)) h _ (by rw [hw, List.take_length]) w hs

/-- What a text begins with from a place on, as it lies in it. -/
structure Led (s : ByteArray) (a N : Nat) (lo hi : Int) : Prop where
  at_ : ∀ j, j < N → ∃ hb : a + j < s.size, lo ≤ ((s[a + j]'hb).toNat : Int) ∧ ((s[a + j]'hb).toNat : Int) ≤ hi
  out : ∀ hb : a + N < s.size, ((s[a + N]'hb).toNat : Int) < lo ∨ (lo ≤ ((s[a + N]'hb).toNat : Int) ∧ hi < ((s[a + N]'hb).toNat : Int))
  le : a + N ≤ s.size
theorem led_of (s : ByteArray) (a : Nat) (ha : a ≤ s.size) (lo hi : Int) : Led s a (leadL lo hi (s.data.toList.drop a)).length lo hi where
  at_ j h := by
    obtain ⟨hb, hi, _⟩ := lead_in lo hi s a j h
    refine ⟨hb, ?_⟩
    simpa [inB] using hi
  out hb := by
    have := lead_out lo hi s a hb
    simp only [inB, Bool.and_eq_false_iff, decide_eq_false_iff_not] at this
    omega
  le := by
    have hl := leadL_len lo hi (s.data.toList.drop a)
    have hq : s.data.toList.length = s.size := Array.length_toList (xs := s.data)
    rw [List.length_drop, hq] at hl
    omega
theorem led_ext (s : ByteArray) (a : Nat) (lo hi : Int) : s.extract a (a + (leadL lo hi (s.data.toList.drop a)).length) = ⟨(leadL lo hi (s.data.toList.drop a)).toArray⟩ := by
  rw [ext_eq, List.drop_take, Nat.add_sub_cancel_left, ← leadL_take]

end Go.Proofs.YtgfaaeloppdkkaaDoor
