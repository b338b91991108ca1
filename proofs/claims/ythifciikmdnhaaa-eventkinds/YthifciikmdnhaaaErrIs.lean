/-
  What errors.Is answers of two errors that are numbers (api's), or nil and one: whether they are the same number; in whatever world; nothing is turned.
-/
import Derived.Test.YthifciikmdnhaaaVal
import Derived.LaidEql
import Derived.Stop.Asserts
import Derived.RowKitTokens
import Derived.Lib.IfaceEq
namespace Go.Proofs.Ythifciikmdnhaaa
open Go.RowKit Go.Extern.Stop Go.Stop Go.Extern

/-- An error that is a number. -/
abbrev errV (n : Int) : Value := .iface 39 (.int .i64 n)

theorem Try.isTypeOf (v : Value) (w : World) : (Extern.ReflectliteType.typeOf #[.iface 39 v]).run Try.prog w = .ok (.iface 71 (.agg #[.pointer (some ⟨0, 39, none⟩)])) w := by kernel_rfl
/-- The model's entry for (rtype).Comparable. -/
def cmpE : Array Value → Sem Value := ReflectliteType.method fun t => do Rtype.noPackHeld "Comparable" t; pure (.bool (← typeInfo t).comparable)
theorem Try.isComparable (w : World) : (cmpE #[.agg #[.pointer (some ⟨0, 39, none⟩)]]).run Try.prog w = .ok (.bool true) w := by kernel_rfl
theorem Try.isMethodComparable (v : Value) (w : World) : (Go.method 224 71 v "Comparable").run Try.prog w = .ok (52, v) w := by kernel_rfl
theorem Try.isComp : (Try.prog.info? 39).map (·.comparable) = some true := by kernel_rfl
theorem Try.noIs (v : Value) (xT : TypeId) (w : World) : (Instr.typeAssert (.iface 39 v) xT 73 true).run Try.prog w = .ok (.tuple #[.nilIface, .bool false]) w := run_typeAssert_lacksB Try.underlying73 (by kernel_rfl) (by kernel_rfl) v xT w
theorem Try.noUnwrap (v : Value) (xT : TypeId) (w : World) : (Instr.typeAssert (.iface 39 v) xT 76 true).run Try.prog w = .ok (.tuple #[.nilIface, .bool false]) w := run_typeAssert_lacksB Try.underlying76 (by kernel_rfl) (by kernel_rfl) v xT w
theorem Try.noUnwraps (v : Value) (xT : TypeId) (w : World) : (Instr.typeAssert (.iface 39 v) xT 78 true).run Try.prog w = .ok (.tuple #[.nilIface, .bool false]) w := run_typeAssert_lacksB Try.underlying78 (by kernel_rfl) (by kernel_rfl) v xT w

set_option maxRecDepth 100000 in
theorem errIs_c (n m : Int) (w : World) :
    Calls Try.prog 8 #[errV n, errV m] w fun e w' => e = .returned (.bool (n == m)) ∧ w' = w := by
  have h8 := @run_callFunc_extern Try.prog 15 _ Extern.ReflectliteType.typeOf Try.func15 (by kernel_rfl) (by kernel_rfl) (by kernel_rfl) (by kernel_rfl)
  have h32 := @run_callFunc_extern Try.prog 52 _ cmpE Try.func52 (by kernel_rfl) (by kernel_rfl) (by kernel_rfl) (by kernel_rfl)
  have tT := Try.isTypeOf
  have cT := Try.isComparable
  have mR := Try.isMethodComparable
  have nE := Try.noIs
  have uE := Try.noUnwrap
  have vE := Try.noUnwraps
  have heq : ∀ W, (binOp .eql 38 (errV n) (errV m)).run Try.prog W = .ok (.bool (n == m)) W := fun W => Lib.run_eql_iface_int W n m Try.underlying38 Try.isComp Try.underlying39
  cases hnm : (n == m)
  all_goals
    rw [hnm] at heq
    go_enter Try.func8, Try.ntmps8
    go_wp2
    refine wp_loop_rounds 1 ?_
    rw [rounds_succ]
    go_wp2
    go_ret
    exact ⟨rfl, rfl⟩

/-- errors.Is(nil, x). -/
theorem errIs_nil_c (m : Int) (w : World) :
    Calls Try.prog 8 #[.nilIface, errV m] w fun e w' => e = .returned (.bool false) ∧ w' = w := by
  have hn := run_eql_iface_nil_left (P := Try.prog) w 39 (.int .i64 m) Try.underlying38
  go_enter Try.func8, Try.ntmps8
  go_wp2
  go_ret
  exact ⟨rfl, rfl⟩

end Go.Proofs.Ythifciikmdnhaaa
