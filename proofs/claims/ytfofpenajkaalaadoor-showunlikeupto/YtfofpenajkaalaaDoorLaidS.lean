/-
  What the row's condition gives a walk: show's signs and strconv's table stand as their text lays them; a world in which the condition is met.
-/
import Derived.Test.YtfofpenajkaalaaDoorOpenT
import Derived.Lib.LaidTab
import Derived.LaidMore
import Derived.LaidSub
import Derived.LaidLaws
import Derived.Stop.Joined
import Derived.Stop.LaidErr
namespace Go.Proofs.YtfofpenajkaalaaDoor
set_option maxRecDepth 100000
open Go.ChangeShapes Go.WideShapes Go.ChangeAt Go.WideMaps Go.WideElems Go.RowKit

theorem laid_head {P : Program} {n : String} {D : DataW Unit} {r : List (String × DataW Unit)} {W : World} (h : laidMet P ((n, D) :: r) W) {g : Nat} {t : TypeId} (hg : P.globalNamed n = some g) (ht : (P.globals[g]?).map (·.type) = some t) :
    ∃ cs fuel p, W.var? P n = some cs ∧ DataW.trod (fun _ => ()) P W 0 (fun _ => true) false fuel t cs.toList = some (D, p) := by
  obtain ⟨ps, ⟨g0, t0, cs0, f0, p0, q0, hg0, ht0, hv0, hd0, _, _⟩, _, _⟩ := h
  obtain rfl := Option.some.inj (hg.symm.trans hg0)
  obtain rfl := Option.some.inj (ht.symm.trans ht0)
  exact ⟨cs0, f0, p0, hv0, hd0⟩

def signsV : Array Value := (signsL.map fun t => Value.string ⟨t.toArray⟩).toArray
theorem gSigns : Tryd.prog.globalNamed "pastern/show.signs" = some 0 := by kernel_rfl
theorem tSigns : (Tryd.prog.globals[0]?).map (·.type) = some 79 := by kernel_rfl
theorem cells79 : Tryd.prog.cellsOf 79 = 12 := by kernel_rfl
theorem laid_signs {r : List (String × DataW Unit)} {W : World} (h : laidMet Tryd.prog (("pastern/show.signs", Rows.laid_pastern_show_signs) :: r) W) :
    ∀ i, i < 12 → W.cell? ⟨0, i, none⟩ = signsV[i]? := by
  have hu : Tryd.prog.underlying 79 = some (.array 12 9) := Tryd.underlying79
  obtain ⟨cs, f, p, hv, hd⟩ := laid_head h gSigns tSigns
  obtain ⟨xs, m, _, hx, hl, hxl, hel⟩ := DataW.trod_array hu hd
  rw [cells79] at hl
  intro i hi
  have hi' := hel i hi
  rw [cellsStr, Nat.mul_one] at hi'
  obtain ⟨y, hy⟩ : ∃ y, xs[i]? = some y := ⟨_, List.getElem?_eq_getElem (by omega)⟩
  rw [hy] at hi'
  obtain ⟨s, es, rfl, _⟩ := DataW.trod_string Tryd.underlying9 hi'
  have hc : cs[i]? = some (.string s) := by
    have : (cs.toList.drop i).take 1 = [Value.string s] := es
    have h2 : (cs.toList.drop i).head? = some (.string s) := by
      cases hq : cs.toList.drop i with
      | nil => rw [hq] at this; cases this
      | cons a b => rw [hq] at this; simp at this; simp [this]
    rw [List.head?_drop, Array.getElem?_toList] at h2
    exact h2
  have hxi : (xs.map (·.1))[i]? = some (.lit (.string s.data.toList)) := by rw [List.getElem?_map, hy]; rfl
  have hsg : signsV[i]? = some (.string s) := by
    have hD : (Rows.laid_pastern_show_signs : DataW Unit) = .agg (xs.map (·.1)) := (Prod.mk.injEq .. ▸ hx).1
    have hL : (xs.map (·.1)) = (signsL.map fun t => (DataW.lit (Lit.string t) : DataW Unit)) := by
      have e : (Rows.laid_pastern_show_signs : DataW Unit) = .agg (signsL.map fun t => (DataW.lit (Lit.string t) : DataW Unit)) := rfl
      rw [e] at hD
      injection hD with hD
      exact hD.symm
    rw [hL, List.getElem?_map] at hxi
    obtain ⟨t, ht, et⟩ := Option.map_eq_some_iff.1 hxi
    injection et with et
    injection et with et
    have hV : signsV[i]? = (signsL.map fun t => Value.string ⟨t.toArray⟩)[i]? := by
      simp [signsV]
    rw [hV, List.getElem?_map, ht, et]
    simp
  rw [hsg, ← hc]
  exact World.var?_cell gSigns hv i

theorem g64 : Tryd.prog.globalNamed "math/bits.deBruijn64tab" = some 3 := by kernel_rfl
theorem t64 : (Tryd.prog.globals[3]?).map (·.type) = some 128 := by kernel_rfl
theorem cells128 : Tryd.prog.cellsOf 128 = 64 := by kernel_rfl
theorem gPow : Tryd.prog.globalNamed "internal/strconv.uint64pow10" = some 1 := by kernel_rfl
theorem tPow : (Tryd.prog.globals[1]?).map (·.type) = some 112 := by kernel_rfl
theorem cells112 : Tryd.prog.cellsOf 112 = 20 := by kernel_rfl
theorem tU64 : ∃ e, Tryd.prog.underlying 112 = some (.array 20 e) ∧ Tryd.prog.underlying e = some (.int .u64) ∧ Tryd.prog.cellsOf e = 1 := by
  have h : Tryd.prog.underlying 112 = some (.array 20 75) := Tryd.underlying112
  exact ⟨75, h, by kernel_rfl, by kernel_rfl⟩

/-- A variable of many cells has its block. -/
theorem block_of_laid {n : String} {D : DataW Unit} {r : List (String × DataW Unit)} {W : World} (h : laidMet Tryd.prog ((n, D) :: r) W) {g t k m : Nat} (hg : Tryd.prog.globalNamed n = some g) (ht : (Tryd.prog.globals[g]?).map (·.type) = some t)
    (hu : Tryd.prog.underlying t = some (.array k 5)) (hc : Tryd.prog.cellsOf t = m + 1) : g < W.heap.size := by
  obtain ⟨cs, f, p, hv, hd⟩ := laid_head h hg ht
  obtain ⟨xs, _, _, _, hl, _⟩ := DataW.trod_array hu hd
  rw [hc] at hl
  have h0 := World.var?_cell hg hv 0
  obtain ⟨x, hx⟩ : ∃ x, cs[0]? = some x := ⟨_, Array.getElem?_eq_getElem (by simp at hl; omega)⟩
  rw [hx] at h0
  exact block_lt_of_cell h0

theorem vars_of_laid {W : World} (h : laidMetH Tryd.prog Rows.showTellsUptoRow.laid W) : Vars W := by
  have h1 : laidMet Tryd.prog Rows.showTellsUptoRow.laid W := by
    rwa [MakeChecks.laidMetH_plain _ _ _ (by kernel_rfl)] at h
  have hs := laid_signs (laidMet.tail (laidMet.tail (laidMet.tail h1)))
  refine ⟨?_, fun i hi => ?_, ?_⟩
  · exact block_of_laid (m := 63) (laidMet.tail h1) g64 t64 Tryd.underlying128 cells128
  · rw [hs i (by simpa [signsL] using hi)]
    simp [signsV, List.getElem?_eq_getElem hi]
  · obtain ⟨e, h3, h4, h5⟩ := tU64
    exact Lib.tabIs_of_head (zs := Lib.pow10Tab) gPow tPow h3 h4 h5 cells112 (laidMet.tail (laidMet.tail h1))

/-- The door's own heap meets the condition. -/
theorem door_met (os : Os) (args : Array Value) : laidMetH Tryd.prog Rows.showTellsUptoRow.laid ((World.doorLaid Tryd.prog 65 os).forCall (fun _ _ => 0) ⟨#[], args, []⟩).memory :=
  laidMetH_of_parts3 (fuel := 8) (laidMet_of_run' 8 (by kernel_rfl) (by kernel_rfl)) (by kernel_rfl) (by kernel_rfl)

end Go.Proofs.YtfofpenajkaalaaDoor
