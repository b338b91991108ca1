/-
  What Kids and isSound answer: for every node, in whatever world; nothing that lay is turned.
-/
import Derived.Test.YtfofpenajkaalaaDoorVisit
import Derived.Lib.QuietBelow
namespace Go.Proofs.YtfofpenajkaalaaDoor
open Go.RowKit Go.Shelf

/-- How many kids a sign has. -/
def kidsN (op : Int) : Nat := if op = 12 then 1 else if 3 ≤ op ∧ op ≤ 11 then 2 else 0

set_option maxHeartbeats 400000 in
theorem kids_c (op : Int) (w : World) : Calls Tryd.prog 64 #[.int .i64 op] w fun e w' => e = .returned (.int .i64 (kidsN op)) ∧ w' = w := by
  by_cases h1 : op = 12
  · subst h1
    go_enter Tryd.func64, Tryd.ntmps64
    go_wp2
    go_ret
    exact ⟨rfl, rfl⟩
  have e1 : (op == 12) = false := by simp [h1]
  by_cases h2 : 3 ≤ op
  · by_cases h3 : op ≤ 11
    · have H := hide (show kidsN op = 2 by simp [kidsN, h1, h2, h3])
      clear h1
      go_enter Tryd.func64, Tryd.ntmps64
      go_wp2
      go_ret
      exact ⟨by rw [unhide H]; rfl, rfl⟩
    · have H := hide (show kidsN op = 0 by simp [kidsN, h1, h3])
      clear h1
      go_enter Tryd.func64, Tryd.ntmps64
      go_wp2
      go_ret
      exact ⟨by rw [unhide H]; rfl, rfl⟩
  · have H := hide (show kidsN op = 0 by simp [kidsN, h1, h2])
    clear h1
    go_enter Tryd.func64, Tryd.ntmps64
    go_wp2
    go_ret
    exact ⟨by rw [unhide H]; rfl, rfl⟩

def bareB (d : Dat) : Bool := d.al.1.toList.isEmpty && d.fd.1.toList.isEmpty
def zeroB (d : Dat) : Bool := decide (d.k = 0 ∧ d.n = 0 ∧ d.s.1.toList = [])
/-- A node alone is as it may be. -/
def soundB (d : Dat) (m : Nat) : Bool :=
  decide (1 ≤ d.op) && decide (d.op ≤ 12) && decide (m = kidsN d.op) &&
    (if d.op = 1 then bareB d && isB d.k d.n d.s.1 else if d.op = 2 then zeroB d && nameB d.al.1 && nameB d.fd.1 else bareB d && zeroB d)

theorem Box.bd {w W : World} {n k : Nat} (h : Below n w W) : Below n w (W.drewN k) := by
  induction k with
  | zero => exact h
  | succ k ih => exact ih.drew

set_option maxRecDepth 100000 in
set_option maxHeartbeats 4000000 in
theorem isSound_c (d : Dat) (a : Option Addr) (m cap : Nat) (w : World) : Calls Tryd.prog 47 #[d.v a m cap] w fun e w' => e = .returned (.bool (soundB d m)) ∧ Below w.heap.size w w' := by
  obtain ⟨W, hW⟩ : ∃ W, W = w.alloc (.cells (d.cs a m cap) 26) := ⟨_, rfl⟩
  have bW : Below w.heap.size w W := by rw [hW]; exact (Below.refl _ _).alloc (Nat.le_refl _) _
  have xb : Box W w.heap.size 26 (d.cs a m cap) := by rw [hW]; exact Box.new _ _ _
  obtain ⟨op, k, n, s, al, fd⟩ := d
  obtain ⟨h0, h1, h2, h3, h4, h5, h6⟩ := xb.seven
  simp only at h0 h1 h2 h3 h4 h5 h6
  go_enter Tryd.func47, Tryd.ntmps47
  go_upto_region 1 with fail
  dsimp only [Dat.cs] at hW
  rw [← hW]
  clear hW
  by_cases c1 : 1 ≤ op
  case neg =>
    have H := hide (show soundB ⟨op, k, n, s, al, fd⟩ m = false by simp [soundB, c1])
    have e1 : decide (op < 1) = true := by simp; omega
    go_quiet (fail)
    go_wp2_with fail
    go_ret
    exact ⟨by rw [unhide H]; rfl, Box.bd bW⟩
  have e1 : decide (op < 1) = false := by simp; omega
  by_cases c2 : op ≤ 12
  case neg =>
    have H := hide (show soundB ⟨op, k, n, s, al, fd⟩ m = false by simp [soundB, c2])
    have e2 : decide (12 < op) = true := by simp; omega
    clear c1
    go_quiet (fail)
    go_wp2_with fail
    go_ret
    exact ⟨by rw [unhide H]; rfl, Box.bd bW⟩
  have e2 : decide (12 < op) = false := by simp; omega
  by_cases c3 : m = kidsN op
  case neg =>
    have H := hide (show soundB ⟨op, k, n, s, al, fd⟩ m = false by simp [soundB, c3])
    have e3 : ((m : Int) != (kidsN op : Int)) = true := by simp; omega
    replace c3 := hide c3
    clear c1 c2
    go_quiet ((go_at_call 64; exact Calls.quiet_of_same (kids_c _ _)))
    go_wp2_with fail
    go_ret
    exact ⟨by rw [unhide H]; rfl, Box.bd bW⟩
  have e3 : ((m : Int) != (kidsN op : Int)) = false := by simp; omega
  replace c3 := hide c3
  go_quiet ((go_at_call 64; exact Calls.quiet_of_same (kids_c _ _)))
  clear e1 e2 e3
  obtain ⟨W2, hW2⟩ : ∃ W2, W2 = W.drewN nq := ⟨_, rfl⟩
  have bW2 : Below w.heap.size w W2 := by rw [hW2]; exact Box.bd bW
  have xb2 : Box W2 w.heap.size 26 (Dat.cs ⟨op, k, n, s, al, fd⟩ a m cap) := by rw [hW2]; exact xb.drewN _
  rw [← hW2]
  clear hW2 h0 h1 h2 h3 h4 h5 h6 xb bW
  obtain ⟨h0, h1, h2, h3, h4, h5, h6⟩ := xb2.seven
  simp only at h0 h1 h2 h3 h4 h5 h6
  have hs := s.2
  have c12 : (decide (1 ≤ op) && decide (op ≤ 12) && decide (m = kidsN op)) = true := by simp [c1, c2, unhide c3]
  by_cases o1 : op = 1
  · subst o1
    have H := hide (show soundB ⟨1, k, n, s, al, fd⟩ m = ((al.1.toList.isEmpty && fd.1.toList.isEmpty) && isB k n s.1) by simp only [soundB]; rw [c12]; simp [bareB])
    clear c1 c2 c3 c12
    cases hA : al.1.toList.isEmpty
    · rw [hA] at H
      go_wp2_with fail
      go_ret
      exact ⟨by rw [unhide H]; rfl, bW2⟩
    cases hF : fd.1.toList.isEmpty
    · rw [hA, hF] at H
      go_wp2_with fail
      go_ret
      exact ⟨by rw [unhide H]; rfl, bW2⟩
    rw [hA, hF] at H
    go_wp2_with (go_at_call 19; refine (is36 _ _ _ _ hs).mono ?_; rintro e w3 ⟨rfl, hb3⟩)
    go_ret
    exact ⟨by rw [unhide H]; rfl, bW2.trans (hb3.mono bW2.size)⟩
  have o1' : (op == 1) = false := by simp [o1]
  have hz : (decide (k = 0 ∧ n = 0 ∧ s.1.toList = [])) = zeroB ⟨op, k, n, s, al, fd⟩ := rfl
  by_cases o2 : op = 2
  · subst o2
    have H := hide (show soundB ⟨2, k, n, s, al, fd⟩ m = (decide (k = 0 ∧ n = 0 ∧ s.1.toList = []) && nameB al.1 && nameB fd.1) by simp only [soundB]; rw [c12]; simp [zeroB])
    clear c1 c2 c3 c12 o1 hz
    have hl1 := al.2
    have hl2 := fd.2
    by_cases hz : k = 0 ∧ n = 0 ∧ s.1.toList = []
    · rw [decide_eq_true hz, Bool.true_and] at H
      obtain ⟨rfl, rfl, hs0⟩ := hz
      cases hN : nameB al.1
      · rw [hN, Bool.false_and] at H
        cases hA : al.1.toList.isEmpty <;> cases hF : fd.1.toList.isEmpty
        all_goals
          go_wp2_with (go_at_call 50; refine (name21 _ _ hl1).mono ?_; rintro e w3 ⟨rfl, hb3⟩; rw [hN])
          go_ret
          exact ⟨by rw [unhide H]; rfl, bW2.trans (hb3.mono bW2.size)⟩
      · rw [hN, Bool.true_and] at H
        cases hA : al.1.toList.isEmpty <;> cases hF : fd.1.toList.isEmpty
        all_goals
          go_wp2_with fail
          refine (name21 _ _ hl1).mono ?_
          rintro e w3 ⟨rfl, hb3⟩
          rw [hN]
          have h5' := (xb2.on hb3 xb2.lt).seven.2.2.2.2.2.1
          simp only at h5'
          go_wp2_with fail
          refine (name21 _ _ hl2).mono ?_
          rintro e w4 ⟨rfl, hb4⟩
          go_wp2_with fail
          go_ret
          exact ⟨by rw [unhide H]; rfl, bW2.trans ((hb3.trans (hb4.mono hb3.size)).mono bW2.size)⟩
    · rw [decide_eq_false hz, Bool.false_and, Bool.false_and] at H
      replace hz := hide hz
      cases hA : al.1.toList.isEmpty <;> cases hF : fd.1.toList.isEmpty
      all_goals
        go_wp2_with fail
      all_goals first | (go_ret; exact ⟨by rw [unhide H]; rfl, bW2⟩) | (exfalso; exact unhide hz ⟨by assumption, by assumption, by assumption⟩) | (exfalso; exact unhide hz ⟨rfl, rfl, by assumption⟩)
  have o2' : (op == 2) = false := by simp [o2]
  have H := hide (show soundB ⟨op, k, n, s, al, fd⟩ m = ((al.1.toList.isEmpty && fd.1.toList.isEmpty) && decide (k = 0 ∧ n = 0 ∧ s.1.toList = [])) by simp only [soundB]; rw [c12]; simp [bareB, zeroB, o1, o2])
  clear c1 c2 c3 c12 o1 o2 hz
  cases hA : al.1.toList.isEmpty
  · rw [hA] at H
    go_wp2_with fail
    go_ret
    exact ⟨by rw [unhide H]; rfl, bW2⟩
  cases hF : fd.1.toList.isEmpty
  · rw [hA, hF] at H
    go_wp2_with fail
    go_ret
    exact ⟨by rw [unhide H]; rfl, bW2⟩
  rw [hA, hF] at H
  by_cases hz : k = 0 ∧ n = 0 ∧ s.1.toList = []
  · rw [decide_eq_true hz] at H
    obtain ⟨rfl, rfl, hs0⟩ := hz
    go_wp2_with fail
    go_ret
    exact ⟨by rw [unhide H]; rfl, bW2⟩
  · rw [decide_eq_false hz] at H
    replace hz := hide hz
    go_wp2_with fail
    all_goals first | (go_ret; exact ⟨by rw [unhide H]; rfl, bW2⟩) | (exfalso; exact unhide hz ⟨by assumption, by assumption, by assumption⟩) | (exfalso; exact unhide hz ⟨rfl, rfl, by assumption⟩)

end Go.Proofs.YtfofpenajkaalaaDoor
