/-
  What the row's condition gives the walk of WordTells: the package variables of package word stand as their text lays them, and errors.errorType holds the handle of the type 'error'; a world in which the condition is met.
-/
import Derived.Test.YtgfaaeloppdkkaaDoorLaidV
import Derived.LaidLaws
import Derived.LaidHandle
namespace Go.Proofs.YtgfaaeloppdkkaaDoor
open Go.ChangeShapes Go.WideShapes Go.ChangeAt Go.WideMaps Go.WideElems Go.RowKit

/-- The rows' list, errors.errorType among them. -/
abbrev laid11 : List (String × DataW Unit) := Rows.wordTellsRow.laid
theorem laid11_parts {W : World} (h : laidMetH Tryd.prog laid11 W) : laidMet Tryd.prog laid10 W ∧ handlesMet Tryd.prog [("errors.errorType", Rows.laid_errors_errorType)] W := laidMetH_iff.1 h
theorem vars_of_laidH {W : World} (h : laidMetH Tryd.prog laid11 W) : Vars W :=
  vars_of_met (r := []) (laidMet.tail (laidMet.tail (laidMet.tail (laid11_parts h).1)))

theorem et11 : Tryd.prog.globalNamed "errors.errorType" = some 0 := by kernel_rfl
theorem rt11 : (Tryd.prog.cutTypes.find? (·.1 == "internal/reflectlite.rtype")).map (·.2) = some 72 := by kernel_rfl
theorem size11 : ∃ n, Tryd.prog.types.size = n ∧ ((List.range n).filter fun t => Tryd.prog.rowNamed t [101, 114, 114, 111, 114]) = [25] := ⟨172, by kernel_rfl, by kernel_rfl⟩
/-- What the condition gives a walk of errors.errorType: its one cell. -/
theorem handle_of_laidH {W : World} (h : laidMetH Tryd.prog laid11 W) : W.cell? ⟨0, 0, none⟩ = some (.iface 72 (.agg #[.pointer (some ⟨11, 25, none⟩)])) := by
  obtain ⟨name, u, ty, e1, e2, e3, e4, e5⟩ := (laid11_parts h).2 _ (List.mem_singleton.2 rfl)
  have en : name = [101, 114, 114, 111, 114] := (Option.some.inj e1).symm
  subst en
  obtain rfl := Option.some.inj (rt11.symm.trans e2)
  obtain ⟨n, hn, oneRow⟩ := size11
  have hm : ty ∈ (List.range n).filter fun t => Tryd.prog.rowNamed t [101, 114, 114, 111, 114] := List.mem_filter.2 ⟨List.mem_range.2 (by rw [← hn]; exact e3), e4⟩
  rw [oneRow] at hm
  obtain rfl := List.mem_singleton.1 hm
  have hh : typeHandle Tryd.prog 25 = .pointer (some ⟨11, 25, none⟩) := by kernel_rfl
  rw [hh] at e5
  simpa using World.var?_cell et11 e5 0

/-- The door's own heap meets the condition. -/
theorem doorH_met (os : Os) (args : Array Value) : laidMetH Tryd.prog laid11 ((World.doorLaid Tryd.prog 94 os).forCall (fun _ _ => 0) ⟨#[], args, []⟩).memory :=
  laidMetH_of_parts3 (fuel := 8) (laidMet_of_run' 8 (by kernel_rfl) (by kernel_rfl)) (by kernel_rfl) (by kernel_rfl)

end Go.Proofs.YtgfaaeloppdkkaaDoor
