/-
  What errors.Is answers of two errors that are numbers (api's), or nil and one: whether they are the same number; in whatever world; nothing is turned.
-/
import Derived.Test.YtcjpaldijngnpaaGreatVal
import Derived.LaidEql
import Derived.Stop.Asserts
import Derived.RowKitTokens
import Derived.Lib.IfaceEq
namespace Go.Proofs.YtcjpaldijngnpaaGreat
open Go.RowKit Go.Extern.Stop Go.Stop Go.Extern

/-- An error that is a number. -/
abbrev errV (n : Int) : Value := .iface 40 (.int .i64 n)

theorem Tryz.isTypeOf (v : Value) (w : World) : (Extern.ReflectliteType.typeOf #[.iface 40 v]).run Tryz.prog w = .ok (.iface 101 (.agg #[.pointer (some ⟨0, 40, none⟩)])) w := by kernel_rfl
/-- The model's entry for (rtype).Comparable. -/
def cmpE : Array Value → Sem Value := ReflectliteType.method fun t => do Rtype.noPackHeld "Comparable" t; pure (.bool (← typeInfo t).comparable)
theorem Tryz.isComparable (w : World) : (cmpE #[.agg #[.pointer (some ⟨0, 40, none⟩)]]).run Tryz.prog w = .ok (.bool true) w := by kernel_rfl
theorem Tryz.isMethodComparable (v : Value) (w : World) : (Go.method 317 101 v "Comparable").run Tryz.prog w = .ok (124, v) w := by kernel_rfl
theorem Tryz.isComp : (Tryz.prog.info? 40).map (·.comparable) = some true := by kernel_rfl
theorem Tryz.noIs (v : Value) (xT : TypeId) (w : World) : (Instr.typeAssert (.iface 40 v) xT 103 true).run Tryz.prog w = .ok (.tuple #[.nilIface, .bool false]) w := run_typeAssert_lacksB Tryz.underlying103 (by kernel_rfl) (by kernel_rfl) v xT w
theorem Tryz.noUnwrap (v : Value) (xT : TypeId) (w : World) : (Instr.typeAssert (.iface 40 v) xT 106 true).run Tryz.prog w = .ok (.tuple #[.nilIface, .bool false]) w := run_typeAssert_lacksB Tryz.underlying106 (by kernel_rfl) (by kernel_rfl) v xT w
theorem Tryz.noUnwraps (v : Value) (xT : TypeId) (w : World) : (Instr.typeAssert (.iface 40 v) xT 108 true).run Tryz.prog w = .ok (.tuple #[.nilIface, .bool false]) w := run_typeAssert_lacksB Tryz.underlying108 (by kernel_rfl) (by kernel_rfl) v xT w

set_option maxRecDepth 100000 in
theorem errIs_c (n m : Int) (w : World) :
    Calls Tryz.prog 8 #[errV n, errV m] w fun e w' => e = .returned (.bool (n == m)) ∧ w' = w := by
  have h8 := @run_callFunc_extern Tryz.prog 18 _ Extern.ReflectliteType.typeOf Tryz.func18 (by kernel_rfl) (by kernel_rfl) (by kernel_rfl) (by kernel_rfl)
  have h32 := @run_callFunc_extern Tryz.prog 124 _ cmpE Tryz.func124 (by kernel_rfl) (by kernel_rfl) (by kernel_rfl) (by kernel_rfl)
  have tT := Tryz.isTypeOf
  have cT := Tryz.isComparable
  have mR := Tryz.isMethodComparable
  have nE := Tryz.noIs
  have uE := Tryz.noUnwrap
  have vE := Tryz.noUnwraps
  have heq : ∀ W, (binOp .eql 25 (errV n) (errV m)).run Tryz.prog W = .ok (.bool (n == m)) W := fun W => Lib.run_eql_iface_int W n m Tryz.underlying25 Tryz.isComp Tryz.underlying40
  cases hnm : (n == m)
  all_goals
    rw [hnm] at heq
    go_enter Tryz.func8, Tryz.ntmps8
    go_wp2
    refine wp_loop_rounds 1 ?_
    rw [rounds_succ]
    go_wp2
    go_ret
    exact ⟨rfl, rfl⟩

/-- errors.Is(nil, x). -/
theorem errIs_nil_c (m : Int) (w : World) :
    Calls Tryz.prog 8 #[.nilIface, errV m] w fun e w' => e = .returned (.bool false) ∧ w' = w := by
  have hn := run_eql_iface_nil_left (P := Tryz.prog) w 40 (.int .i64 m) Tryz.underlying25
  go_enter Tryz.func8, Tryz.ntmps8
  go_wp2
  go_ret
  exact ⟨rfl, rfl⟩

end Go.Proofs.YtcjpaldijngnpaaGreat
