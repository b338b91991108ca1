/-
  What errors.Is answers of two errors that are numbers (api's), or nil and one: whether they are the same number; in whatever world; nothing is turned.
-/
import Derived.Test.YtgfaaeloppdkkaaDoorVal
import Derived.LaidEql
import Derived.Stop.Asserts
import Derived.RowKitTokens
import Derived.Lib.IfaceEq
namespace Go.Proofs.YtgfaaeloppdkkaaDoor
open Go.RowKit Go.Extern.Stop Go.Stop Go.Extern

/-- An error that is a number. -/
abbrev errV (n : Int) : Value := .iface 40 (.int .i64 n)

theorem Tryd.isTypeOf (v : Value) (w : World) : (Extern.ReflectliteType.typeOf #[.iface 40 v]).run Tryd.prog w = .ok (.iface 72 (.agg #[.pointer (some ⟨11, 40, none⟩)])) w := by kernel_rfl
/-- The model's entry for (rtype).Comparable. -/
def cmpE : Array Value → Sem Value := ReflectliteType.method fun t => do Rtype.noPackHeld "Comparable" t; pure (.bool (← typeInfo t).comparable)
theorem Tryd.isComparable (w : World) : (cmpE #[.agg #[.pointer (some ⟨11, 40, none⟩)]]).run Tryd.prog w = .ok (.bool true) w := by kernel_rfl
theorem Tryd.isMethodComparable (v : Value) (w : World) : (Go.method 272 72 v "Comparable").run Tryd.prog w = .ok (109, v) w := by kernel_rfl
theorem Tryd.isComp : (Tryd.prog.info? 40).map (·.comparable) = some true := by kernel_rfl
theorem Tryd.noIs (v : Value) (xT : TypeId) (w : World) : (Instr.typeAssert (.iface 40 v) xT 74 true).run Tryd.prog w = .ok (.tuple #[.nilIface, .bool false]) w := run_typeAssert_lacksB Tryd.underlying74 (by kernel_rfl) (by kernel_rfl) v xT w
theorem Tryd.noUnwrap (v : Value) (xT : TypeId) (w : World) : (Instr.typeAssert (.iface 40 v) xT 77 true).run Tryd.prog w = .ok (.tuple #[.nilIface, .bool false]) w := run_typeAssert_lacksB Tryd.underlying77 (by kernel_rfl) (by kernel_rfl) v xT w
theorem Tryd.noUnwraps (v : Value) (xT : TypeId) (w : World) : (Instr.typeAssert (.iface 40 v) xT 79 true).run Tryd.prog w = .ok (.tuple #[.nilIface, .bool false]) w := run_typeAssert_lacksB Tryd.underlying79 (by kernel_rfl) (by kernel_rfl) v xT w

set_option maxRecDepth 100000 in
theorem errIs_c (n m : Int) (w : World) :
    Calls Tryd.prog 14 #[errV n, errV m] w fun e w' => e = .returned (.bool (n == m)) ∧ w' = w := by
  have h8 := @run_callFunc_extern Tryd.prog 20 _ Extern.ReflectliteType.typeOf Tryd.func20 (by kernel_rfl) (by kernel_rfl) (by kernel_rfl) (by kernel_rfl)
  have h32 := @run_callFunc_extern Tryd.prog 109 _ cmpE Tryd.func109 (by kernel_rfl) (by kernel_rfl) (by kernel_rfl) (by kernel_rfl)
  have tT := Tryd.isTypeOf
  have cT := Tryd.isComparable
  have mR := Tryd.isMethodComparable
  have nE := Tryd.noIs
  have uE := Tryd.noUnwrap
  have vE := Tryd.noUnwraps
  have heq : ∀ W, (binOp .eql 25 (errV n) (errV m)).run Tryd.prog W = .ok (.bool (n == m)) W := fun W => Lib.run_eql_iface_int W n m Tryd.underlying25 Tryd.isComp Tryd.underlying40
  cases hnm : (n == m)
  all_goals
    rw [hnm] at heq
    go_enter Tryd.func14, Tryd.ntmps14
    go_wp2
    refine wp_loop_rounds 1 ?_
    rw [rounds_succ]
    go_wp2
    go_ret
    exact ⟨rfl, rfl⟩

/-- errors.Is(nil, x). -/
theorem errIs_nil_c (m : Int) (w : World) :
    Calls Tryd.prog 14 #[.nilIface, errV m] w fun e w' => e = .returned (.bool false) ∧ w' = w := by
  have hn := run_eql_iface_nil_left (P := Tryd.prog) w 40 (.int .i64 m) Tryd.underlying25
  go_enter Tryd.func14, Tryd.ntmps14
  go_wp2
  go_ret
  exact ⟨rfl, rfl⟩

end Go.Proofs.YtgfaaeloppdkkaaDoor
