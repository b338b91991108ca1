/-
  What the document's functions on rows of texts answer (package pasternref1, layer 1), in whatever world; nothing that lay is turned.
-/
import Derived.Test.YtfofpenajkaalaaDoorNat
import Derived.BigQuiet
namespace Go.Proofs.YtfofpenajkaalaaDoor
open Go.RowKit

def lessB (x y : ByteArray) : Bool := Op.bytesLess x.toList y.toList
theorem Strs.len {n₀ : Nat} {W : World} {a : Option Addr} {len cap : Nat} {ss : List ByteArray} (h : Strs n₀ W (.slice a len cap) ss) : len = ss.length := by
  rcases h with ⟨_, _, e, rfl⟩ | ⟨b, off, c, e, -, -⟩
  · simp only [Value.slice.injEq] at e; simp [e.2.1]
  · simp only [Value.slice.injEq] at e; exact e.2.1
theorem Strs.cellAt {n₀ : Nat} {W : World} {a : Option Addr} {len cap : Nat} {ss : List ByteArray} (h : Strs n₀ W (.slice a len cap) ss) (hl : 0 < ss.length) : ∃ b off, a = some ⟨b, off, none⟩ ∧ len = ss.length ∧ b < n₀ ∧ ∀ j, j < ss.length → W.cell? ⟨b, off + j, none⟩ = some (.string (ss[j]?.getD ByteArray.empty)) := by
  rcases h with ⟨_, _, _, rfl⟩ | ⟨b, off, c, e, hb, hc⟩
  · simp at hl
  · simp only [Value.slice.injEq] at e
    obtain ⟨rfl, rfl, rfl⟩ := e
    exact ⟨b, off, rfl, rfl, hb, hc⟩

theorem below_dn {B : Nat} {a w : World} (h : Below B a w) (n : Nat) : Below B a (w.drewN n) := ⟨h.os, h.tape, h.output, h.size, h.block⟩

set_option maxHeartbeats 1000000 in
theorem refRise17 (a : Option Addr) (len cap : Nat) (ss : List ByteArray) (hreach : ss.length * 16 ≤ 140737488351232) (w : World) (hI : Strs w.heap.size w (.slice a len cap) ss) :
    Calls Tryd.prog 32 #[.slice a len cap] w fun e w' => e = .returned (.bool (riseB ss)) ∧ Below w.heap.size w w' := by
  have hlen := hI.len
  have hlb : (len : Int) ≤ 8796093021952 := by omega
  have HI := hide hI
  have HL := hide hlen
  clear hI hlen
  go_enter Tryd.func32, Tryd.ntmps32
  go_wp2
  go_loopw [3] (fun i wr => ∃ k : Nat, k ≤ len - 1 ∧ i = .int .i64 (k + 1) ∧ Hid (allP (pairsTo ss k) = true) ∧ Below w.heap.size w wr) (fun i _ => len - (intOf i).toNat)
  case atStart => exact ⟨0, Nat.zero_le _, rfl, hide rfl, Below.refl _ _⟩
  case round =>
    obtain ⟨k, hk, rfl, hp, hB⟩ := hrel
    by_cases hlt : k + 1 < len
    · have hll := unhide HL
      obtain ⟨b, off, rfl, _, hb, hc⟩ := ((unhide HI).below hB).cellAt (by omega)
      have hc1 := hc k (by omega)
      have hc2 := hc (k + 1) (by omega)
      have Hs := hide (show allP (pairsTo ss (k + 1)) = lessB (ss[k]?.getD ByteArray.empty) (ss[k + 1]?.getD ByteArray.empty) by unfold pairsTo; rw [upto_succ, allP_snoc]; have := unhide hp; unfold pairsTo at this; rw [this]; rfl)
      have Hno := hide (fun h => rise_no ss (k + 1) (by omega) h)
      clear hc hll
      generalize ss[k]?.getD ByteArray.empty = x at *
      generalize ss[k + 1]?.getD ByteArray.empty = y at *
      have hk1 : (k : Int) + 1 < len := by omega
      have hk2 : (0 : Int) ≤ k := by omega
      have hk3 : (k : Int) < len := by omega
      have hw1 : IntKind.i64.wrap (k : Int) = k := by rw [IntKind.wrap_i64]; omega
      go_wp2
      go_quiet (fail)
      go_wp2
      · have hx : (!Op.bytesLess x.toList y.toList) = true := by assumption
        have hr := unhide Hno (by rw [unhide Hs]; simpa [lessB] using hx)
        go_ret
        exact ⟨by rw [hr]; rfl, below_dn hB _⟩
      · have hx : (!Op.bytesLess x.toList y.toList) = false := by assumption
        exact ⟨⟨k + 1, by omega, by go_num, hide (by rw [unhide Hs]; simpa [lessB] using hx), below_dn hB _⟩, by simp [intOf]; omega⟩
    · have hk1 : ¬ (k : Int) + 1 < len := by omega
      have hr : riseB ss = true := by
        have e : k = ss.length - 1 := by have := unhide HL; omega
        have := unhide hp
        rw [e] at this
        exact this
      have Hr := hide hr
      clear hr
      go_wp2
      go_ret
      exact ⟨by rw [unhide Hr]; rfl, hB⟩

end Go.Proofs.YtfofpenajkaalaaDoor
