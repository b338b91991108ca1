/-
  What errors.Is answers of two errors that are numbers (api's), or nil and one: whether they are the same number; in whatever world; nothing is turned.
-/
import Derived.Test.YtjbgojemgpeokaaVal
import Derived.LaidEql
import Derived.Stop.Asserts
import Derived.RowKitTokens
import Derived.Lib.IfaceEq
namespace Go.Proofs.Ytjbgojemgpeokaa
open Go.RowKit Go.Extern.Stop Go.Stop Go.Extern

/-- An error that is a number. -/
abbrev errV (n : Int) : Value := .iface 58 (.int .i64 n)

theorem Try.isTypeOf (v : Value) (w : World) : (Extern.ReflectliteType.typeOf #[.iface 58 v]).run Try.prog w = .ok (.iface 93 (.agg #[.pointer (some ⟨0, 58, none⟩)])) w := by kernel_rfl
/-- The model's entry for (rtype).Comparable. -/
def cmpE : Array Value → Sem Value := ReflectliteType.method fun t => do Rtype.noPackHeld "Comparable" t; pure (.bool (← typeInfo t).comparable)
theorem Try.isComparable (w : World) : (cmpE #[.agg #[.pointer (some ⟨0, 58, none⟩)]]).run Try.prog w = .ok (.bool true) w := by kernel_rfl
theorem Try.isMethodComparable (v : Value) (w : World) : (Go.method 253 93 v "Comparable").run Try.prog w = .ok (82, v) w := by kernel_rfl
theorem Try.isComp : (Try.prog.info? 58).map (·.comparable) = some true := by kernel_rfl
theorem Try.noIs (v : Value) (xT : TypeId) (w : World) : (Instr.typeAssert (.iface 58 v) xT 95 true).run Try.prog w = .ok (.tuple #[.nilIface, .bool false]) w := run_typeAssert_lacksB Try.underlying95 (by kernel_rfl) (by kernel_rfl) v xT w
theorem Try.noUnwrap (v : Value) (xT : TypeId) (w : World) : (Instr.typeAssert (.iface 58 v) xT 98 true).run Try.prog w = .ok (.tuple #[.nilIface, .bool false]) w := run_typeAssert_lacksB Try.underlying98 (by kernel_rfl) (by kernel_rfl) v xT w
theorem Try.noUnwraps (v : Value) (xT : TypeId) (w : World) : (Instr.typeAssert (.iface 58 v) xT 100 true).run Try.prog w = .ok (.tuple #[.nilIface, .bool false]) w := run_typeAssert_lacksB Try.underlying100 (by kernel_rfl) (by kernel_rfl) v xT w

set_option maxRecDepth 100000 in
theorem errIs_c (n m : Int) (w : World) :
    Calls Try.prog 19 #[errV n, errV m] w fun e w' => e = .returned (.bool (n == m)) ∧ w' = w := by
  have h8 := @run_callFunc_extern Try.prog 29 _ Extern.ReflectliteType.typeOf Try.func29 (by kernel_rfl) (by kernel_rfl) (by kernel_rfl) (by kernel_rfl)
  have h32 := @run_callFunc_extern Try.prog 82 _ cmpE Try.func82 (by kernel_rfl) (by kernel_rfl) (by kernel_rfl) (by kernel_rfl)
  have tT := Try.isTypeOf
  have cT := Try.isComparable
  have mR := Try.isMethodComparable
  have nE := Try.noIs
  have uE := Try.noUnwrap
  have vE := Try.noUnwraps
  have heq : ∀ W, (binOp .eql 35 (errV n) (errV m)).run Try.prog W = .ok (.bool (n == m)) W := fun W => Lib.run_eql_iface_int W n m Try.underlying35 Try.isComp Try.underlying58
  cases hnm : (n == m)
  all_goals
    rw [hnm] at heq
    go_enter Try.func19, Try.ntmps19
    go_wp2
    refine wp_loop_rounds 1 ?_
    rw [rounds_succ]
    go_wp2
    go_ret
    exact ⟨rfl, rfl⟩

/-- errors.Is(nil, x). -/
theorem errIs_nil_c (m : Int) (w : World) :
    Calls Try.prog 19 #[.nilIface, errV m] w fun e w' => e = .returned (.bool false) ∧ w' = w := by
  have hn := run_eql_iface_nil_left (P := Try.prog) w 58 (.int .i64 m) Try.underlying35
  go_enter Try.func19, Try.ntmps19
  go_wp2
  go_ret
  exact ⟨rfl, rfl⟩

end Go.Proofs.Ytjbgojemgpeokaa
