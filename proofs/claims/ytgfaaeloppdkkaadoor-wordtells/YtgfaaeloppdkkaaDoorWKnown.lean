/-
  The head of layer 7's laws: it is true, in whatever world in which the package variables stand; nothing that lay is turned.
-/
import Derived.Test.YtgfaaeloppdkkaaDoorWCut
import Derived.Test.YtgfaaeloppdkkaaDoorErrIs
namespace Go.Proofs.YtgfaaeloppdkkaaDoor
open Go.RowKit Go.Shelf

/-- The cells of a row of words that is not empty. -/
theorem owns_cells {W : World} {B : Nat} {v : Value} {n : Nat} {xs : List Value} (h : W.ownsRow B 32 4 v n xs) (hn : 0 < n) :
    ∃ g cap, v = .slice (some ⟨g, 0, none⟩) n cap ∧ B ≤ g ∧ g < W.heap.size ∧ ∀ j u, xs[j]? = some u → W.cell? ⟨g, j, none⟩ = some u := by
  rcases h.2 with ⟨_, h0⟩ | ⟨g, cap, cur, rfl, hb, hg, hr⟩
  · exact absurd (by first | exact h0 | exact h0.1) (by omega : ¬ n = 0)
  · refine ⟨g, cap, rfl, hb, (Array.getElem?_eq_some_iff.1 hg).1, fun j u hj => ?_⟩
    have he := hr.2.2.2
    rw [← he] at hj
    have hjl := (List.getElem?_eq_some_iff.1 hj).1
    rw [List.length_take] at hjl
    rw [List.getElem?_take_of_lt (by omega), Array.getElem?_toList] at hj
    simp [World.cell?, hg, hj]

theorem cut_err (s : ByteArray) (w : World) (hV : Vars w) (hs : s.size ≤ 281474976710656) (E : Int) (hE : errL 0 (cutL s.data.toList) = E) (hne : E ≠ 0) :
    Calls Tryd.prog 10 #[.string s] w fun e W' => ∃ a cap, e = .returned (.tuple #[.slice a 0 cap, errV E]) ∧ Below w.heap.size w W' := by
  refine (cut10_c s w hV hs).mono ?_
  rintro e W' ⟨v, rfl, hrow, hb⟩
  rw [hE]
  have hw : wordsL s.data.toList = [] := by rw [wordsL, if_neg (by rw [hE]; exact hne)]
  rw [hw] at hrow
  obtain ⟨a, cap, rfl⟩ := owns_form hrow
  exact ⟨a, cap, by rw [errO_ne hne]; rfl, hb⟩

theorem cut_ok (s : ByteArray) (w : World) (hV : Vars w) (hs : s.size ≤ 281474976710656) (ts : List Wd) (hts : cutL s.data.toList = ts) (h0 : errL 0 ts = 0) (hp : 0 < ts.length) :
    Calls Tryd.prog 10 #[.string s] w fun e W' => ∃ g cap, e = .returned (.tuple #[.slice (some ⟨g, 0, none⟩) ts.length cap, .nilIface]) ∧ (w.heap.size ≤ g ∧ g < W'.heap.size ∧ Hid (∀ j u, (cellsW ts)[j]? = some u → W'.cell? ⟨g, j, none⟩ = some u)) ∧ Below w.heap.size w W' := by
  refine (cut10_c s w hV hs).mono ?_
  rintro e W' ⟨v, rfl, hrow, hb⟩
  have hw : wordsL s.data.toList = ts := by rw [wordsL, hts, if_pos h0]
  rw [hw] at hrow
  rw [hts, h0]
  obtain ⟨g, cap, rfl, h1, h2, h3⟩ := owns_cells hrow hp
  exact ⟨g, cap, rfl, ⟨h1, h2, hide h3⟩, hb⟩

theorem Vars.up {A W : World} (h : Vars A) (hb : Below A.heap.size A W) : Vars W := h.on hb h.size

theorem cutK1 (w : World) (hV : Vars w) : Calls Tryd.prog 10 #[.string ⟨#[97, 46, 120, 32, 60, 61, 32, 45, 53, 32, 34, 113, 92, 34, 34, 32, 84, 82, 85, 69]⟩] w fun e W' => ∃ g cap, e = .returned (.tuple #[.slice (some ⟨g, 0, none⟩) 7 cap, .nilIface]) ∧ (w.heap.size ≤ g ∧ g < W'.heap.size ∧ Hid (∀ j u, (cellsW [.word 1 [97] 0 0, .word 5 [46] 0 1, .word 1 [120] 0 2, .word 5 [60, 61] 0 4, .word 2 [] (-5) 7, .word 3 [113, 34] 0 10, .word 4 [84, 82, 85, 69] 0 16])[j]? = some u → W'.cell? ⟨g, j, none⟩ = some u)) ∧ Below w.heap.size w W' :=
  cut_ok ⟨#[97, 46, 120, 32, 60, 61, 32, 45, 53, 32, 34, 113, 92, 34, 34, 32, 84, 82, 85, 69]⟩ w hV (by decide) _ known1_cut rfl (by decide)
theorem cutK2 (w : World) (hV : Vars w) : Calls Tryd.prog 10 #[.string ⟨#[97, 32, 35, 32, 98]⟩] w fun e W' => ∃ a cap, e = .returned (.tuple #[.slice a 0 cap, errV 21]) ∧ Below w.heap.size w W' :=
  cut_err ⟨#[97, 32, 35, 32, 98]⟩ w hV (by decide) 21 known2_cut (by decide)
theorem cutK3 (w : World) (hV : Vars w) : Calls Tryd.prog 10 #[.string ⟨#[34, 120]⟩] w fun e W' => ∃ a cap, e = .returned (.tuple #[.slice a 0 cap, errV 21]) ∧ Below w.heap.size w W' :=
  cut_err ⟨#[34, 120]⟩ w hV (by decide) 21 known3_cut (by decide)
theorem cutK4 (w : World) (hV : Vars w) : Calls Tryd.prog 10 #[.string ⟨#[57, 57, 57, 57, 57, 57, 57, 57, 57, 57, 57, 57, 57, 57, 57, 57, 57, 57, 57, 57]⟩] w fun e W' => ∃ a cap, e = .returned (.tuple #[.slice a 0 cap, errV 12]) ∧ Below w.heap.size w W' :=
  cut_err ⟨#[57, 57, 57, 57, 57, 57, 57, 57, 57, 57, 57, 57, 57, 57, 57, 57, 57, 57, 57, 57]⟩ w hV (by decide) 12 known4_cut (by decide)

set_option maxRecDepth 100000 in
set_option maxHeartbeats 4000000 in
theorem known9_c (w : World) (hV : Vars w) :
    Calls Tryd.prog 9 #[] w fun e w' => e = .returned (.bool true) ∧ Below w.heap.size w w' := by
  go_enter Tryd.func9, Tryd.ntmps9
  go_wp2_with fail
  refine (cutK1 _ hV).mono ?_
  rintro e w1 ⟨g, cap, rfl, ⟨hg1, hg2, hg3⟩, hb1⟩
  go_wp2_with fail
  refine (cutK2 _ (hV.up hb1)).mono ?_
  rintro e w2 ⟨a2, c2, rfl, hb2⟩
  go_wp2_with fail
  refine (cutK3 _ ((hV.up hb1).up hb2)).mono ?_
  rintro e w3 ⟨a3, c3, rfl, hb3⟩
  go_wp2_with fail
  refine (cutK4 _ (((hV.up hb1).up hb2).up hb3)).mono ?_
  rintro e w4 ⟨a4, c4, rfl, hb4⟩
  have hbx : Below w1.heap.size w1 w4 := (hb2.trans (hb3.mono hb2.size)).trans (hb4.mono (Nat.le_trans hb2.size hb3.size))
  have cc : ∀ j u, (cellsW [.word 1 [97] 0 0, .word 5 [46] 0 1, .word 1 [120] 0 2, .word 5 [60, 61] 0 4, .word 2 [] (-5) 7, .word 3 [113, 34] 0 10, .word 4 [84, 82, 85, 69] 0 16])[j]? = some u → w4.cell? ⟨g, j, none⟩ = some u :=
    fun j u hj => (hbx.cell (p := ⟨g, j, none⟩) hg2).trans (unhide hg3 j u hj)
  have k1 : w4.cell? ⟨g, 1, none⟩ = some (.string ⟨#[97]⟩) := cc 1 _ rfl
  have k13 : w4.cell? ⟨g, 13, none⟩ = some (.string ⟨#[60, 61]⟩) := cc 13 _ rfl
  have k18 : w4.cell? ⟨g, 18, none⟩ = some (.int .i64 (-5)) := cc 18 _ rfl
  have k21 : w4.cell? ⟨g, 21, none⟩ = some (.string ⟨#[113, 34]⟩) := cc 21 _ rfl
  have k24 : w4.cell? ⟨g, 24, none⟩ = some (.int .i64 4) := cc 24 _ rfl
  have k27 : w4.cell? ⟨g, 27, none⟩ = some (.int .i64 16) := cc 27 _ rfl
  have HBX := hide hbx
  clear cc hg3
  have hi2 : ∀ w, Calls Tryd.prog 14 #[errV 21, errV 21] w fun e w' => e = .returned (.bool true) ∧ w' = w := fun w => errIs_c 21 21 w
  have hi3 : ∀ w, Calls Tryd.prog 14 #[errV 12, errV 12] w fun e w' => e = .returned (.bool true) ∧ w' = w := fun w => errIs_c 12 12 w
  have h2 := hide hi2
  have h3 := hide hi3
  clear hi2 hi3
  go_wp2_with fail
  refine (unhide h2 _).mono ?_
  rintro e w5 ⟨rfl, rfl⟩
  go_wp2_with fail
  refine (unhide h2 _).mono ?_
  rintro e w6 ⟨rfl, rfl⟩
  go_wp2_with fail
  refine (unhide h3 _).mono ?_
  rintro e w7 ⟨rfl, rfl⟩
  go_wp2_with fail
  go_ret
  exact ⟨rfl, hb1.trans (hbx.mono hb1.size)⟩

end Go.Proofs.YtgfaaeloppdkkaaDoor
