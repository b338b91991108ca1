/-
  What errors.Is answers of two errors that are numbers (api's), or nil and one: whether they are the same number; in whatever world; nothing is turned.
-/
import Derived.Test.YtllpigbmkhanjaaVal
import Derived.LaidEql
import Derived.Stop.Asserts
import Derived.RowKitTokens
import Derived.Lib.IfaceEq
namespace Go.Proofs.Ytllpigbmkhanjaa
open Go.RowKit Go.Extern.Stop Go.Stop Go.Extern

/-- An error that is a number. -/
abbrev errV (n : Int) : Value := .iface 45 (.int .i64 n)

theorem Try.isTypeOf (v : Value) (w : World) : (Extern.ReflectliteType.typeOf #[.iface 45 v]).run Try.prog w = .ok (.iface 84 (.agg #[.pointer (some ⟨0, 45, none⟩)])) w := by kernel_rfl
/-- The model's entry for (rtype).Comparable. -/
def cmpE : Array Value → Sem Value := ReflectliteType.method fun t => do Rtype.noPackHeld "Comparable" t; pure (.bool (← typeInfo t).comparable)
theorem Try.isComparable (w : World) : (cmpE #[.agg #[.pointer (some ⟨0, 45, none⟩)]]).run Try.prog w = .ok (.bool true) w := by kernel_rfl
theorem Try.isMethodComparable (v : Value) (w : World) : (Go.method 273 84 v "Comparable").run Try.prog w = .ok (87, v) w := by kernel_rfl
theorem Try.isComp : (Try.prog.info? 45).map (·.comparable) = some true := by kernel_rfl
theorem Try.noIs (v : Value) (xT : TypeId) (w : World) : (Instr.typeAssert (.iface 45 v) xT 86 true).run Try.prog w = .ok (.tuple #[.nilIface, .bool false]) w := run_typeAssert_lacksB Try.underlying86 (by kernel_rfl) (by kernel_rfl) v xT w
theorem Try.noUnwrap (v : Value) (xT : TypeId) (w : World) : (Instr.typeAssert (.iface 45 v) xT 89 true).run Try.prog w = .ok (.tuple #[.nilIface, .bool false]) w := run_typeAssert_lacksB Try.underlying89 (by kernel_rfl) (by kernel_rfl) v xT w
theorem Try.noUnwraps (v : Value) (xT : TypeId) (w : World) : (Instr.typeAssert (.iface 45 v) xT 91 true).run Try.prog w = .ok (.tuple #[.nilIface, .bool false]) w := run_typeAssert_lacksB Try.underlying91 (by kernel_rfl) (by kernel_rfl) v xT w

set_option maxRecDepth 100000 in
theorem errIs_c (n m : Int) (w : World) :
    Calls Try.prog 11 #[errV n, errV m] w fun e w' => e = .returned (.bool (n == m)) ∧ w' = w := by
  have h8 := @run_callFunc_extern Try.prog 15 _ Extern.ReflectliteType.typeOf Try.func15 (by kernel_rfl) (by kernel_rfl) (by kernel_rfl) (by kernel_rfl)
  have h32 := @run_callFunc_extern Try.prog 87 _ cmpE Try.func87 (by kernel_rfl) (by kernel_rfl) (by kernel_rfl) (by kernel_rfl)
  have tT := Try.isTypeOf
  have cT := Try.isComparable
  have mR := Try.isMethodComparable
  have nE := Try.noIs
  have uE := Try.noUnwrap
  have vE := Try.noUnwraps
  have heq : ∀ W, (binOp .eql 32 (errV n) (errV m)).run Try.prog W = .ok (.bool (n == m)) W := fun W => Lib.run_eql_iface_int W n m Try.underlying32 Try.isComp Try.underlying45
  cases hnm : (n == m)
  all_goals
    rw [hnm] at heq
    go_enter Try.func11, Try.ntmps11
    go_wp2
    refine wp_loop_rounds 1 ?_
    rw [rounds_succ]
    go_wp2
    go_ret
    exact ⟨rfl, rfl⟩

/-- errors.Is(nil, x). -/
theorem errIs_nil_c (m : Int) (w : World) :
    Calls Try.prog 11 #[.nilIface, errV m] w fun e w' => e = .returned (.bool false) ∧ w' = w := by
  have hn := run_eql_iface_nil_left (P := Try.prog) w 45 (.int .i64 m) Try.underlying32
  go_enter Try.func11, Try.ntmps11
  go_wp2
  go_ret
  exact ⟨rfl, rfl⟩

end Go.Proofs.Ytllpigbmkhanjaa
