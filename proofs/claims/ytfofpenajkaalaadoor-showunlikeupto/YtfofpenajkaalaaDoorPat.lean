/-
  What Pattern, sameElem and SamePattern answer: for every pattern that lies, in whatever world; nothing that lay is turned.
-/
import Derived.Test.YtfofpenajkaalaaDoorRowIs
namespace Go.Proofs.YtfofpenajkaalaaDoor
open Go.RowKit Go.Shelf

/-- A pattern. -/
structure Pt where
  es : List Em
  wi : Int
  nm : Txt
  any : Bool
abbrev Pt.cs (q : Pt) (a : Option Addr) (cap : Nat) : Array Value := #[.slice a q.es.length cap, .int .i64 q.wi, .string q.nm.1, .bool q.any]
abbrev Pt.v (q : Pt) (a : Option Addr) (cap : Nat) : Value := .agg (q.cs a cap)
theorem Box.four {W : World} {B : Nat} {t : TypeId} {a b c d : Value} (h : Box W B t #[a, b, c, d]) : W.cell? ⟨B, 0, none⟩ = some a ∧ W.cell? ⟨B, 1, none⟩ = some b ∧ W.cell? ⟨B, 2, none⟩ = some c ∧ W.cell? ⟨B, 3, none⟩ = some d :=
  ⟨h.at 0 rfl, h.at 1 rfl, h.at 2 rfl, h.at 3 rfl⟩

/-- A pattern as it may be. -/
def patB (q : Pt) : Bool := rowB q.es && decide (0 ≤ q.wi) && decide (q.wi ≤ 1000) && (q.nm.1.toList.isEmpty || nameB q.nm.1)

set_option maxRecDepth 100000 in
set_option maxHeartbeats 2000000 in
theorem pattern_c (q : Pt) (a : Option Addr) (cap : Nat) (hcap : q.es.length ≤ cap) (w : World) (hE : Ems w.heap.size w a q.es) :
    Calls Tryd.prog 27 #[q.v a cap] w fun r w' => r = .returned (.bool (patB q)) ∧ Below w.heap.size w w' := by
  obtain ⟨W, hW⟩ : ∃ W, W = w.alloc (.cells (q.cs a cap) 29) := ⟨_, rfl⟩
  have bW : Below w.heap.size w W := by rw [hW]; exact (Below.refl _ _).alloc (Nat.le_refl _) _
  have xb : Box W w.heap.size 29 (q.cs a cap) := by rw [hW]; exact Box.new _ _ _
  have cR := hide (isRow_c a cap q.es hcap W (hE.on bW))
  obtain ⟨h0, h1, h2, h3⟩ := xb.four
  go_enter Tryd.func27, Tryd.ntmps27
  go_upto_region 1 with fail
  rw [← hW]
  clear hW
  replace hE := hide hE
  go_wp2_with fail
  refine (unhide cR).mono ?_
  rintro r w1 ⟨rfl, hb1⟩
  clear cR
  have b1 := bW.trans (hb1.mono bW.size)
  have x1 := xb.on hb1 xb.lt
  clear h0 h1 h2 h3
  obtain ⟨h0, h1, h2, h3⟩ := x1.four
  cases c1 : rowB q.es
  · have H := hide (show patB q = false by simp [patB, c1])
    go_wp2_with fail
    go_ret
    exact ⟨by rw [unhide H]; rfl, b1⟩
  by_cases c2 : 0 ≤ q.wi
  case neg =>
    have H := hide (show patB q = false by simp [patB, c2])
    go_wp2_with fail
    go_ret
    exact ⟨by rw [unhide H]; rfl, b1⟩
  by_cases c3 : q.wi ≤ 1000
  case neg =>
    have H := hide (show patB q = false by simp [patB, c3])
    go_wp2_with fail
    go_ret
    exact ⟨by rw [unhide H]; rfl, b1⟩
  have H := hide (show patB q = (q.nm.1.toList.isEmpty || nameB q.nm.1) by simp only [patB]; rw [c1, decide_eq_true c2, decide_eq_true c3]; simp)
  clear c1
  have cN := hide (name21 q.nm.1 w1 q.nm.2)
  cases c4 : q.nm.1.toList.isEmpty
  · rw [c4] at H
    go_wp2_with fail
    refine (unhide cN).mono ?_
    rintro r w2 ⟨rfl, hb2⟩
    go_wp2_with fail
    go_ret
    exact ⟨by rw [unhide H]; rfl, b1.trans (hb2.mono b1.size)⟩
  · rw [c4] at H
    go_wp2_with fail
    go_ret
    exact ⟨by rw [unhide H]; rfl, b1⟩

end Go.Proofs.YtfofpenajkaalaaDoor
