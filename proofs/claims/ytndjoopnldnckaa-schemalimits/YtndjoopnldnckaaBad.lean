/-
  What hasBadFields answers of a type: for every type, in whatever world; nothing that lay is turned.
-/
import Derived.Test.YtndjoopnldnckaaKinds
namespace Go.Proofs.Ytndjoopnldnckaa
open Go.RowKit Go.Shelf

theorem rise12 (a : Option Addr) (len cap : Nat) (ss : List ByteArray) (h5 : ss.length ≤ 5) (w : World) (hI : Strs w.heap.size w (.slice a len cap) ss) :
    Calls Try.prog 12 #[.slice a len cap] w fun e W' => e = .returned (.bool (riseB ss)) ∧ Below w.heap.size w W' := callsIn_wide.1 (rise_in 3 (Nat.le_refl _) a len cap ss (by omega) w hI)
theorem types11 (a : Option Addr) (len cap : Nat) (w : World) :
    Calls Try.prog 11 #[.slice a len cap] w fun e w' => e = .returned (.func (.func 22) #[] #[.pointer (some ⟨w.heap.size, 0, none⟩)]) ∧ w' = w.alloc (.cells #[.slice a len cap] 23) := callsIn_wide.1 (types_in 3 a len cap w)
theorem fields18 (a : Option Addr) (len cap : Nat) (w : World) :
    Calls Try.prog 18 #[.slice a len cap] w fun e w' => e = .returned (.func (.func 29) #[] #[.pointer (some ⟨w.heap.size, 0, none⟩)]) ∧ w' = w.alloc (.cells #[.slice a len cap] 27) := callsIn_wide.1 (fields_in 3 a len cap w)

/-- The same, said by what it gives. -/
theorem fields18g (a : Option Addr) (cap : Nat) (fs : List Fd) (h5 : fs.length ≤ 5) (w : World) (hF : Flds w.heap.size w a fs) :
    Calls Try.prog 18 #[.slice a fs.length cap] w fun e w' => ∃ Bs, e = .returned (.func (.func 29) #[] #[.pointer (some ⟨Bs, 0, none⟩)]) ∧ Gives w' 29 Bs (fnames fs) ∧ Below w.heap.size w w' := by
  refine (fields18 a fs.length cap w).mono ?_
  rintro e w' ⟨rfl, rfl⟩
  have hg := fields_give w a cap (fnames fs) (by rw [fnames_len]; exact h5) hF.names
  rw [fnames_len] at hg
  exact ⟨_, rfl, hg, (Below.refl _ _).alloc (Nat.le_refl _) _⟩
theorem types11g (a : Option Addr) (cap : Nat) (ns : List Txt) (h5 : ns.length ≤ 5) (w : World) (hT : TNames w.heap.size w a ns) :
    Calls Try.prog 11 #[.slice a ns.length cap] w fun e w' => ∃ Bs, e = .returned (.func (.func 22) #[] #[.pointer (some ⟨Bs, 0, none⟩)]) ∧ Gives w' 22 Bs ns ∧ Below w.heap.size w w' := by
  refine (types11 a ns.length cap w).mono ?_
  rintro e w' ⟨rfl, rfl⟩
  exact ⟨_, rfl, types_give w a cap ns h5 hT, (Below.refl _ _).alloc (Nat.le_refl _) _⟩

/-- Fields that may not be. -/
def badF (fs : List Fd) : Bool := decide (5 < fs.length) || !namesB (fnames fs) || !riseB (sortT (fnames fs)) || anyBad fs

set_option maxHeartbeats 1000000 in
theorem badFields15 (nm : ByteArray) (a : Option Addr) (cap : Nat) (fs : List Fd) (hm : fs.length ≤ maxLen) (w : World) (hF : Flds w.heap.size w a fs) :
    Calls Try.prog 15 #[.agg #[.string nm, .slice a fs.length cap]] w fun e w' => e = .returned (.bool (badF fs)) ∧ Below w.heap.size w w' := by
  unfold maxLen at hm
  have b0 : Below w.heap.size w (w.alloc (.cells #[.string nm, .slice a fs.length cap] 29)) := (Below.refl _ _).alloc (Nat.le_refl _) _
  have s0 := hF.on b0
  by_cases h5 : fs.length ≤ 5
  · have hl5 := h5
    have hsl := sortT_len (fnames fs)
    have hfl := fnames_len fs
    have hS5 : (sortT (fnames fs)).length ≤ 5 := by omega
    clear hsl hfl
    have hlt : ¬ (5 : Int) < fs.length := by omega
    cases hn : namesB (fnames fs)
    · have H := hide (show badF fs = true by simp [badF, hn])
      clear hS5
      go_enter Try.func15, Try.ntmps15
      go_wp2_with fail
      refine (fields18g a cap fs hl5 _ s0).mono ?_
      rintro e w1 ⟨B1, rfl, hg1, hb1⟩
      go_wp2_with fail
      refine (allNames10 _ _ _ _ hg1).mono ?_
      rintro e w2 ⟨rfl, hb2⟩
      rw [hn]
      go_wp2_with fail
      go_ret
      have b1 := b0.trans (hb1.mono b0.size)
      exact ⟨by rw [unhide H]; rfl, b1.trans (hb2.mono b1.size)⟩
    · have hcb : ∀ w1, Below w.heap.size.succ (w.alloc (.cells #[.string nm, .slice a fs.length cap] 29)) w1 → w1.cell? ⟨w.heap.size, 1, none⟩ = some (.slice a fs.length cap) := fun w1 hb => (hb.cell (p := ⟨w.heap.size, 1, none⟩) (by simp)).trans (by simp)
      cases hr : riseB (sortT (fnames fs))
      · have H := hide (show badF fs = true by simp [badF, hr])
        go_enter Try.func15, Try.ntmps15
        go_wp2_with fail
        refine (fields18g a cap fs hl5 _ s0).mono ?_
        rintro e w1 ⟨B1, rfl, hg1, hb1⟩
        go_wp2_with fail
        refine (allNames10 _ _ _ _ hg1).mono ?_
        rintro e w2 ⟨rfl, hb2⟩
        rw [hn]
        have b2 := hb1.trans (hb2.mono hb1.size)
        have s2 := s0.on b2
        have hc2 := hcb w2 (b2.mono (by simp))
        go_wp2_with fail
        refine (fields18g a cap fs hl5 _ s2).mono ?_
        rintro e w3 ⟨B3, rfl, hg3, hb3⟩
        go_wp2_with fail
        refine (sorted26 _ _ _ _ hg3).mono ?_
        rintro e w4 ⟨a4, c4, rfl, st4, hb4⟩
        go_wp2_with fail
        refine (rise12 _ _ _ _ hS5 _ st4).mono ?_
        rintro e w5 ⟨rfl, hb5⟩
        rw [hr]
        go_wp2_with fail
        go_ret
        have b3 := b2.trans (hb3.mono b2.size)
        have b4 := b3.trans (hb4.mono b3.size)
        have b5 := b4.trans (hb5.mono b4.size)
        exact ⟨by rw [unhide H]; rfl, b0.trans (b5.mono b0.size)⟩
      · have H := hide (show badF fs = anyBad fs by simp [badF, hr, hn]; omega)
        go_enter Try.func15, Try.ntmps15
        go_wp2_with fail
        refine (fields18g a cap fs hl5 _ s0).mono ?_
        rintro e w1 ⟨B1, rfl, hg1, hb1⟩
        go_wp2_with fail
        refine (allNames10 _ _ _ _ hg1).mono ?_
        rintro e w2 ⟨rfl, hb2⟩
        rw [hn]
        have b2 := hb1.trans (hb2.mono hb1.size)
        have s2 := s0.on b2
        have hc2 := hcb w2 (b2.mono (by simp))
        go_wp2_with fail
        refine (fields18g a cap fs hl5 _ s2).mono ?_
        rintro e w3 ⟨B3, rfl, hg3, hb3⟩
        go_wp2_with fail
        refine (sorted26 _ _ _ _ hg3).mono ?_
        rintro e w4 ⟨a4, c4, rfl, st4, hb4⟩
        go_wp2_with fail
        refine (rise12 _ _ _ _ hS5 _ st4).mono ?_
        rintro e w5 ⟨rfl, hb5⟩
        rw [hr]
        have b3 := b2.trans (hb3.mono b2.size)
        have b4 := b3.trans (hb4.mono b3.size)
        have b5 := b4.trans (hb5.mono b4.size)
        have s5 := s0.on b5
        have hc5 := hcb w5 (b5.mono (by simp))
        go_wp2_with fail
        refine (contains27 a cap fs hl5 _ s5).mono ?_
        rintro e w6 ⟨rfl, hb6⟩
        go_wp2_with fail
        go_ret
        have b6 := b5.trans (hb6.mono b5.size)
        exact ⟨by rw [unhide H]; rfl, b0.trans (b6.mono b0.size)⟩
  · have H := hide (show badF fs = true by simp [badF]; omega)
    have hlt : (5 : Int) < fs.length := by omega
    go_enter Try.func15, Try.ntmps15
    go_wp2_with fail
    go_ret
    exact ⟨by rw [unhide H]; rfl, b0⟩

end Go.Proofs.Ytndjoopnldnckaa
