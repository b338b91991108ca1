/-
  WordTells: it is true, for every text, in whatever world in which the package variables stand; nothing that lay is turned.
-/
import Derived.Test.YtgfaaeloppdkkaaDoorDCut
import Derived.Test.YtgfaaeloppdkkaaDoorWKnown
import Derived.Test.YtgfaaeloppdkkaaDoorAs
import Derived.Test.YtgfaaeloppdkkaaDoorBlanksP
import Derived.BigQuiet
namespace Go.Proofs.YtgfaaeloppdkkaaDoor
open Go.RowKit Go.Shelf

/-- What 'code' answers of what Cut tells. -/
theorem codeO_c (c : Int) (w : World) (hg : w.cell? ⟨0, 0, none⟩ = some (.iface 72 (.agg #[.pointer (some ⟨11, 25, none⟩)]))) :
    Calls Tryd.prog 12 #[errO c] w fun e w' => e = .returned (.int .i64 c) ∧ Below w.heap.size w w' := by
  by_cases h : c = 0
  · rw [h, errO_zero]; exact code_0 w
  · rw [errO_ne h]; exact code_c c w hg

theorem errL_bad_ne : ∀ (l : List Wd) (k : Nat), (∃ e, Wd.bad e ∈ l) → (∀ e, Wd.bad e ∈ l → e ≠ 0) → errL k l ≠ 0
  | [], _, ⟨_, h⟩, _ => by cases h
  | .bad e :: r, k, _, hn => hn e (by simp)
  | .word a b c d :: r, k, ⟨e, he⟩, hn => by
    show (if k = 500 then 12 else errL (k + 1) r) ≠ 0
    split
    · decide
    · refine errL_bad_ne r (k + 1) ⟨e, ?_⟩ fun e' h => hn e' (List.mem_cons_of_mem _ h)
      rcases List.mem_cons.1 he with h | h
      · cases h
      · exact h
theorem wordsL_len (l : List UInt8) : (wordsL l).length ≤ l.length := by
  unfold wordsL
  split
  · exact cutL_length l
  · simp
theorem wordsL_words (l : List UInt8) : ∀ x ∈ wordsL l, isWord x = true := by
  intro x hx
  unfold wordsL at hx
  split at hx
  · rename_i h0
    cases x with
    | word => rfl
    | bad e =>
      exfalso
      obtain ⟨pre, post, hp⟩ := List.append_of_mem hx
      exact errL_bad_ne (cutL l) 0 ⟨e, hx⟩ (fun e' h => by rcases bad_mem h with rfl | rfl <;> decide) h0
  · cases hx

set_option maxRecDepth 100000 in
set_option maxHeartbeats 4000000 in
theorem tells3_c (s : ByteArray) (w : World) (hV : Vars w) (hg : w.cell? ⟨0, 0, none⟩ = some (.iface 72 (.agg #[.pointer (some ⟨11, 25, none⟩)]))) :
    Calls Tryd.prog 3 #[.string s] w fun e w' => e = .returned (.bool true) ∧ Below w.heap.size w w' := by
  have hz := hV.size
  have hg0 : (⟨0, 0, none⟩ : Addr).block < w.heap.size := by simp; omega
  have hk := hide (known9_c w hV)
  by_cases h600 : 600 < s.size
  · have hd : decide ((600 : Int) < s.size) = true := decide_eq_true (by omega)
    go_enter Tryd.func3, Tryd.ntmps3
    go_wp2_with fail
    refine (unhide hk).mono ?_
    rintro e w1 ⟨rfl, hb1⟩
    go_wp2_with fail
    go_ret
    exact ⟨rfl, hb1⟩
  have hd : decide ((600 : Int) < s.size) = false := decide_eq_false (by omega)
  have hs : s.size ≤ 281474976710656 := by omega
  obtain ⟨E, hE⟩ : ∃ E, E = errL 0 (cutL s.data.toList) := ⟨_, rfl⟩
  obtain ⟨ws, hws⟩ : ∃ ws, ws = wordsL s.data.toList := ⟨_, rfl⟩
  have hww := hide (show ∀ x ∈ ws, isWord x = true by rw [hws]; exact wordsL_words _)
  have hwl : ws.length ≤ 600 := by
    have := wordsL_len s.data.toList
    rw [← hws, Array.length_toList] at this
    exact Nat.le_trans this (by omega : s.size ≤ 600)
  have hc1 := hide (fun w1 hV1 => cut10_c s w1 hV1 hs)
  have hc2 := hide (fun w1 => dcut11_c s w1 hs)
  rw [← hE, ← hws] at hc1 hc2
  clear hE hws
  go_enter Tryd.func3, Tryd.ntmps3
  go_wp2_with fail
  refine (unhide hk).mono ?_
  rintro e w1 ⟨rfl, hb1⟩
  have hV1 := hV.up hb1
  go_wp2_with fail
  refine (unhide hc1 w1 hV1).mono ?_
  rintro e w2 ⟨v, rfl, hrow, hb2⟩
  obtain ⟨a, cap, rfl⟩ := owns_form hrow
  replace hrow := hide hrow
  go_wp2_with fail
  refine (unhide hc2 w2).mono ?_
  rintro e w3 ⟨v, rfl, hrow2, hb3⟩
  obtain ⟨a2, cap2, rfl⟩ := owns_form hrow2
  replace hrow2 := hide hrow2
  have hB3 : Below w.heap.size w w3 := (hb1.trans (hb2.mono hb1.size)).trans (hb3.mono (Nat.le_trans hb1.size hb2.size))
  have hg3 : w3.cell? ⟨0, 0, none⟩ = some (.iface 72 (.agg #[.pointer (some ⟨11, 25, none⟩)])) := (hB3.cell (p := ⟨0, 0, none⟩) hg0).trans hg
  have hcode := hide (codeO_c E w3 hg3)
  go_wp2_with fail
  refine (unhide hcode).mono ?_
  rintro e w4 ⟨rfl, hb4⟩
  have hrowA := hide (owns_below (owns_below (unhide hrow) hb3) hb4)
  have hrowB := hide (owns_below (unhide hrow2) hb4)
  have hB4 : Below w.heap.size w w4 := hB3.trans (hb4.mono hB3.size)
  go_wp2_with fail
  go_loopw [7] (fun q wr => ∃ m : Nat, m ≤ ws.length ∧ q = .int .i64 m ∧ Below w4.heap.size w4 wr) (fun q _ => ws.length - (intOf q).toNat)
  case atStart => exact ⟨0, Nat.zero_le _, rfl, Below.refl _ _⟩
  case round =>
    obtain ⟨m, hm, rfl, hbr⟩ := hrel
    by_cases hmx : m < ws.length
    · obtain ⟨g, cp, ea, hg1, hg2, hcs⟩ := owns_cells (unhide hrowA) (by omega)
      obtain ⟨g', cp', ea', hg1', hg2', hcs'⟩ := owns_cells (unhide hrowB) (by omega)
      have hat := cellsW_at ws (unhide hww) m hmx
      have hw := unhide hww ws[m] (List.getElem_mem hmx)
      rcases hx : ws[m] with ⟨kk, tt, nn, at_⟩ | e
      · rw [hx] at hat
        simp only [Value.slice.injEq] at ea ea'
        obtain ⟨rfl, -, -⟩ := ea
        obtain ⟨rfl, -, -⟩ := ea'
        have up : ∀ j u, (cellsW ws)[j]? = some u → wr.cell? ⟨g, j, none⟩ = some u := fun j u h => (hbr.cell (p := ⟨g, j, none⟩) hg2).trans (hcs j u h)
        have up' : ∀ j u, (cellsW ws)[j]? = some u → wr.cell? ⟨g', j, none⟩ = some u := fun j u h => (hbr.cell (p := ⟨g', j, none⟩) hg2').trans (hcs' j u h)
        have c0 := up (m * 4) (.int .i64 kk) (hat 0 (by omega))
        have c1 := up (m * 4 + 1) (.string ⟨tt.toArray⟩) (hat 1 (by omega))
        have c2 := up (m * 4 + 2) (.int .i64 nn) (hat 2 (by omega))
        have c3 := up (m * 4 + 3) (.int .i64 at_) (hat 3 (by omega))
        have d0 := up' (m * 4) (.int .i64 kk) (hat 0 (by omega))
        have d1 := up' (m * 4 + 1) (.string ⟨tt.toArray⟩) (hat 1 (by omega))
        have d2 := up' (m * 4 + 2) (.int .i64 nn) (hat 2 (by omega))
        have d3 := up' (m * 4 + 3) (.int .i64 at_) (hat 3 (by omega))
        clear hat up up' hcs hcs' hx hw
        go_wp2
        go_quiet (fail)
        go_wp2
        go_roundw
        case rel => exact ⟨m + 1, by omega, by go_num, below_drewN hbr _⟩
        case measure => simp [intOf]; omega
      · rw [hx] at hw; cases hw
    · have hmx' : decide ((m : Int) < ws.length) = false := decide_eq_false (by omega)
      go_wp2
      go_ret
      exact ⟨rfl, hB4.trans (hbr.mono hB4.size)⟩

end Go.Proofs.YtgfaaeloppdkkaaDoor
