/-
  What the rows' condition gives a walk: the package variables that the parser reads stand as the program's text lays them; a world in which the condition is met.
-/
import Derived.Test.YtmhpakhnclkenaaGreatDoorKnown9
import Derived.Test.YtmhpakhnclkenaaGreatDoorRows
import Derived.ProofKit
import Derived.Lib.LaidTab
import Derived.LaidMore
import Derived.LaidSub
import Derived.LaidLaws
import Derived.OpenShut
import Derived.Stop.Joined
import Derived.Stop.LaidErr
namespace Go.Proofs.YtmhpakhnclkenaaGreatDoor
set_option maxRecDepth 100000
open Go.ChangeShapes Go.WideShapes Go.ChangeAt Go.WideMaps Go.WideElems Go.RowKit

theorem laid_head {P : Program} {n : String} {D : DataW Unit} {r : List (String × DataW Unit)} {W : World} (h : laidMet P ((n, D) :: r) W) {g : Nat} {t : TypeId} (hg : P.globalNamed n = some g) (ht : (P.globals[g]?).map (·.type) = some t) :
    ∃ cs fuel p, W.var? P n = some cs ∧ DataW.trod (fun _ => ()) P W 0 (fun _ => true) false fuel t cs.toList = some (D, p) := by
  obtain ⟨ps, ⟨g0, t0, cs0, f0, p0, q0, hg0, ht0, hv0, hd0, _, _⟩, _, _⟩ := h
  obtain rfl := Option.some.inj (hg.symm.trans hg0)
  obtain rfl := Option.some.inj (ht.symm.trans ht0)
  exact ⟨cs0, f0, p0, hv0, hd0⟩

theorem underSp : ∃ f0 f1 : Field, Tryz.prog.underlying 188 = some (.struct #[f0, f1]) ∧ (f0.type = 5 ∧ f0.offset = 0) ∧ (f1.type = 5 ∧ f1.offset = 1) := ⟨_, _, Tryz.underlying188, ⟨rfl, rfl⟩, ⟨rfl, rfl⟩⟩
theorem cells5 : Tryz.prog.cellsOf 5 = 1 := by kernel_rfl
theorem cellsSp : Tryz.prog.cellsOf 188 = 2 := by kernel_rfl
theorem cells9 : Tryz.prog.cellsOf 9 = 1 := by kernel_rfl
theorem cellsSg : Tryz.prog.cellsOf 204 = 16 := by kernel_rfl
theorem laid_span {n : String} {a b : Int} {r : List (String × DataW Unit)} {W : World} (h : laidMet Tryz.prog ((n, .agg [.lit (.int .u8 a), .lit (.int .u8 b)]) :: r) W) {g : Nat} (hg : Tryz.prog.globalNamed n = some g) (ht : (Tryz.prog.globals[g]?).map (·.type) = some 188) :
    W.cell? ⟨g, 0, none⟩ = some (.int .u8 a) ∧ W.cell? ⟨g, 1, none⟩ = some (.int .u8 b) := by
  obtain ⟨cs, f, p, hv, hd⟩ := laid_head h hg ht
  obtain ⟨f0, f1, hu, ⟨t0, o0⟩, ⟨t1, o1⟩⟩ := underSp
  obtain ⟨y0, y1, m, hx, hl, h0, h1⟩ := trod_struct2 hu hd
  rw [t0, o0, cells5] at h0
  rw [t1, o1, cells5] at h1
  obtain ⟨n0, e0, rfl, _⟩ := DataW.trod_int Tryz.underlying5 h0
  obtain ⟨n1, e1, rfl, _⟩ := DataW.trod_int Tryz.underlying5 h1
  simp at hx
  obtain ⟨⟨rfl, rfl⟩, _⟩ := hx
  rw [cellsSp] at hl
  obtain ⟨l⟩ := cs
  match l, hl, e0, e1 with
  | [x, y], _, e0, e1 =>
    simp at e0 e1
    subst e0 e1
    exact ⟨by simpa using World.var?_cell hg hv 0, by simpa using World.var?_cell hg hv 1⟩

theorem underSg : Tryz.prog.underlying 204 = some (.array 16 9) := Tryz.underlying204
theorem laid_signs {r : List (String × DataW Unit)} {W : World} (h : laidMet Tryz.prog (("pastern/word.signs", Rows.laid_pastern_word_signs) :: r) W) :
    ∀ i, i < 16 → W.cell? ⟨5, i, none⟩ = signsV[i]? := by
  have hg : Tryz.prog.globalNamed "pastern/word.signs" = some 5 := by kernel_rfl
  obtain ⟨cs, f, p, hv, hd⟩ := laid_head h hg (by kernel_rfl)
  obtain ⟨xs, m, _, hx, hl, hxl, hel⟩ := DataW.trod_array underSg hd
  rw [cellsSg] at hl
  intro i hi
  have hi' := hel i hi
  rw [cells9, Nat.mul_one] at hi'
  obtain ⟨y, hy⟩ : ∃ y, xs[i]? = some y := ⟨_, List.getElem?_eq_getElem (by omega)⟩
  rw [hy] at hi'
  obtain ⟨s, es, rfl, _⟩ := DataW.trod_string Tryz.underlying9 hi'
  have hc : cs[i]? = some (.string s) := by
    have : (cs.toList.drop i).take 1 = [Value.string s] := es
    have h2 : (cs.toList.drop i).head? = some (.string s) := by
      cases hq : cs.toList.drop i with
      | nil => rw [hq] at this; cases this
      | cons a b => rw [hq] at this; simp at this; simp [this]
    rw [List.head?_drop, Array.getElem?_toList] at h2
    exact h2
  have hxi : (xs.map (·.1))[i]? = some (.lit (.string s.data.toList)) := by rw [List.getElem?_map, hy]; rfl
  have hsg : signsV[i]? = some (.string s) := by
    have hD : (Rows.laid_pastern_word_signs : DataW Unit) = .agg (xs.map (·.1)) := (Prod.mk.injEq .. ▸ hx).1
    have hL : (xs.map (·.1)) = (signsL.map fun t => (DataW.lit (Lit.string t) : DataW Unit)) := by
      have e : (Rows.laid_pastern_word_signs : DataW Unit) = .agg (signsL.map fun t => (DataW.lit (Lit.string t) : DataW Unit)) := rfl
      rw [e] at hD
      injection hD with hD
      exact hD.symm
    rw [hL, List.getElem?_map] at hxi
    obtain ⟨t, ht, et⟩ := Option.map_eq_some_iff.1 hxi
    injection et with et
    injection et with et
    have hV : signsV[i]? = (signsL.map fun t => Value.string ⟨t.toArray⟩)[i]? := by
      have : signsV.toList = signsL.map fun t => Value.string ⟨t.toArray⟩ := rfl
      rw [← this, Array.getElem?_toList]
    rw [hV, List.getElem?_map, ht, et]
    simp
  rw [hsg, ← hc]
  exact World.var?_cell hg hv i

theorem underPs : Tryz.prog.underlying 159 = some (.array 9 9) := Tryz.underlying159
theorem cellsPs : Tryz.prog.cellsOf 159 = 9 := by kernel_rfl
theorem laid_psigns {r : List (String × DataW Unit)} {W : World} (h : laidMet Tryz.prog (("pastern/parse.signs", Rows.laid_pastern_parse_signs) :: r) W) :
    ∀ i, i < 9 → W.cell? ⟨3, i, none⟩ = psgV[i]? := by
  have hg : Tryz.prog.globalNamed "pastern/parse.signs" = some 3 := by kernel_rfl
  obtain ⟨cs, f, p, hv, hd⟩ := laid_head h hg (by kernel_rfl)
  obtain ⟨xs, m, _, hx, hl, hxl, hel⟩ := DataW.trod_array underPs hd
  rw [cellsPs] at hl
  intro i hi
  have hi' := hel i hi
  rw [cells9, Nat.mul_one] at hi'
  obtain ⟨y, hy⟩ : ∃ y, xs[i]? = some y := ⟨_, List.getElem?_eq_getElem (by omega)⟩
  rw [hy] at hi'
  obtain ⟨s, es, rfl, _⟩ := DataW.trod_string Tryz.underlying9 hi'
  have hc : cs[i]? = some (.string s) := by
    have : (cs.toList.drop i).take 1 = [Value.string s] := es
    have h2 : (cs.toList.drop i).head? = some (.string s) := by
      cases hq : cs.toList.drop i with
      | nil => rw [hq] at this; cases this
      | cons a b => rw [hq] at this; simp at this; simp [this]
    rw [List.head?_drop, Array.getElem?_toList] at h2
    exact h2
  have hxi : (xs.map (·.1))[i]? = some (.lit (.string s.data.toList)) := by rw [List.getElem?_map, hy]; rfl
  have hsg : psgV[i]? = some (.string s) := by
    have hD : (Rows.laid_pastern_parse_signs : DataW Unit) = .agg (xs.map (·.1)) := (Prod.mk.injEq .. ▸ hx).1
    have hL : (xs.map (·.1)) = (psigns.map fun t => (DataW.lit (Lit.string t.data.toList) : DataW Unit)) := by
      have e : (Rows.laid_pastern_parse_signs : DataW Unit) = .agg (psigns.map fun t => (DataW.lit (Lit.string t.data.toList) : DataW Unit)) := rfl
      rw [e] at hD
      injection hD with hD
      exact hD.symm
    rw [hL, List.getElem?_map] at hxi
    obtain ⟨t, ht, et⟩ := Option.map_eq_some_iff.1 hxi
    injection et with et
    injection et with et
    have hV : psgV[i]? = (psigns.map fun t => Value.string t)[i]? := by
      have : psgV.toList = psigns.map fun t => Value.string t := rfl
      rw [← this, Array.getElem?_toList]
    rw [hV, List.getElem?_map, ht]
    have e2 : t = s := by cases t; cases s; simp only [] at et; congr 1; exact Array.ext' et
    rw [e2]; rfl
  rw [hsg, ← hc]
  exact World.var?_cell hg hv i


theorem gPow : Tryz.prog.globalNamed "internal/strconv.uint64pow10" = some 7 := by kernel_rfl
theorem tPow : (Tryz.prog.globals[7]?).map (·.type) = some 226 := by kernel_rfl
theorem cellsPow : Tryz.prog.cellsOf 226 = 20 := by kernel_rfl
theorem underPow : ∃ e, Tryz.prog.underlying 226 = some (.array 20 e) ∧ Tryz.prog.underlying e = some (.int .u64) ∧ Tryz.prog.cellsOf e = 1 := by
  exact ⟨_, Tryz.underlying226, by kernel_rfl, by kernel_rfl⟩
theorem g64 : Tryz.prog.globalNamed "math/bits.deBruijn64tab" = some 14 := by kernel_rfl
theorem t64 : (Tryz.prog.globals[14]?).map (·.type) = some 246 := by kernel_rfl
theorem cells246 : Tryz.prog.cellsOf 246 = 64 := by kernel_rfl
theorem block_of_laid {n : String} {D : DataW Unit} {r : List (String × DataW Unit)} {W : World} (h : laidMet Tryz.prog ((n, D) :: r) W) {g t k m : Nat} (hg : Tryz.prog.globalNamed n = some g) (ht : (Tryz.prog.globals[g]?).map (·.type) = some t)
    (hu : Tryz.prog.underlying t = some (.array k 5)) (hc : Tryz.prog.cellsOf t = m + 1) : g < W.heap.size := by
  obtain ⟨cs, f, p, hv, hd⟩ := laid_head h hg ht
  obtain ⟨xs, _, _, _, hl, _⟩ := DataW.trod_array hu hd
  rw [hc] at hl
  have h0 := World.var?_cell hg hv 0
  obtain ⟨x, hx⟩ : ∃ x, cs[0]? = some x := ⟨_, Array.getElem?_eq_getElem (by simp at hl; omega)⟩
  rw [hx] at h0
  exact block_lt_of_cell h0

/-- The rows' list where they don't list errors.errorType. -/
abbrev laid13 : List (String × DataW Unit) := Rows.parseWrongRow.laid
theorem v9_of_laid {W : World} (h : laidMetH Tryz.prog laid13 W) : V9 W := by
  have h1 : laidMet Tryz.prog laid13 W := by
    rwa [MakeChecks.laidMetH_plain _ _ _ (by kernel_rfl)] at h
  have hb : 14 < W.heap.size := block_of_laid (m := 63) (laidMet.tail h1) g64 t64 Tryz.underlying246 cells246
  have hR := laidMet.tail (laidMet.tail (laidMet.tail (laidMet.tail h1)))
  have hS := laidMet.tail (laidMet.tail hR)
  obtain ⟨a0, a1⟩ := laid_span (n := "pastern/word.small") (g := 1) hS (by kernel_rfl) (by kernel_rfl)
  obtain ⟨b0, b1⟩ := laid_span (n := "pastern/word.great") (g := 2) (laidMet.tail hS) (by kernel_rfl) (by kernel_rfl)
  obtain ⟨c0, c1⟩ := laid_span (n := "pastern/word.digit") (g := 4) (laidMet.tail (laidMet.tail hS)) (by kernel_rfl) (by kernel_rfl)
  obtain ⟨d0, d1⟩ := laid_span (n := "pastern/word.printed") (g := 6) (laidMet.tail (laidMet.tail (laidMet.tail hS))) (by kernel_rfl) (by kernel_rfl)
  have hg : Tryz.prog.globalNamed "strconv.ErrRange" = some 12 := by kernel_rfl
  obtain ⟨cs, f, p, hv, hd⟩ := laid_head hR hg (t := 29) (by kernel_rfl)
  obtain ⟨_, u, v, e, _⟩ := iface_of_trod Tryz.underlying29 hd
  have hc : W.cell? ⟨12, 0, none⟩ = some (.iface u v) := by
    have := World.var?_cell hg hv 0
    rw [Array.eq_one_of_toList e] at this
    simpa using this
  have hW := laidMet.tail (laidMet.tail (laidMet.tail (laidMet.tail hS)))
  refine ⟨⟨hb, a0, a1, b0, b1, c0, c1, d0, d1, laid_signs hW, ⟨u, v, hc⟩⟩, ⟨by omega, ?_⟩, ⟨by omega, laid_psigns (laidMet.tail hW)⟩⟩
  obtain ⟨e, h3, h4, h5⟩ := underPow
  exact Lib.tabIs_of_head (zs := Lib.pow10Tab) gPow tPow h3 h4 h5 cellsPow (laidMet.tail (laidMet.tail h1))

/-- The door's own heap, the pinned table utf8.first filled in. -/
noncomputable def doorW (os : Os) : World := { World.doorLaid Tryz.prog 109 os with heap := (World.doorLaid Tryz.prog 109 os).heap.setIfInBounds 8 (.cells (Pinned.utf8FirstZ.map fun n => Value.int .u8 (Int.ofNat n)).toArray 236) }
theorem door_met (os : Os) (args : Array Value) : laidMetH Tryz.prog laid13 ((doorW os).forCall (fun _ _ => 0) ⟨#[], args, []⟩).memory :=
  laidMetH_of_parts3 (fuel := 8) (laidMet_of_run' 8 (by kernel_rfl) (by kernel_rfl)) (by kernel_rfl) (by kernel_rfl)

end Go.Proofs.YtmhpakhnclkenaaGreatDoor
