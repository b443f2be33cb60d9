/-
  Keeper: the small functions; errors.Is of the errors of this program.
-/
import Derived.Test.YtlhamckpgijjmaaPk24
import Derived.LaidEql
import Derived.Stop.Asserts
namespace Go.Proofs.Ytlhamckpgijjmaa
open Go.RowKit Go.Extern.Stop Go.Stop Go.Extern
set_option linter.unusedVariables false
set_option maxRecDepth 100000

/-- The model's 'Comparable'. -/
def cmpF : Array Value → Sem Value := Extern.ReflectliteType.method fun t => do Extern.Rtype.noPackHeld "Comparable" t; pure (.bool (← typeInfo t).comparable)
/-- What reflectlite hands out for this program's errors. -/
noncomputable def hEr : Value := typeHandle Try.prog 55
theorem isTypeOf (v : Value) (w : World) : (Extern.ReflectliteType.typeOf #[.iface 55 v]).run Try.prog w = .ok (.iface 130 (.agg #[hEr])) w := by kernel_rfl
theorem isComparable (w : World) : (cmpF #[.agg #[hEr]]).run Try.prog w = .ok (.bool true) w := by kernel_rfl
theorem isMethodComparable (v : Value) (w : World) : (Go.method 286 130 v "Comparable").run Try.prog w = .ok (101, v) w := by kernel_rfl
theorem noIsE (v : Value) (xT : TypeId) (w : World) : (Instr.typeAssert (.iface 55 v) xT 132 true).run Try.prog w = .ok (.tuple #[.nilIface, .bool false]) w := run_typeAssert_lacksB Try.underlying132 (by kernel_rfl) (by kernel_rfl) v xT w
theorem noUnwrapE (v : Value) (xT : TypeId) (w : World) : (Instr.typeAssert (.iface 55 v) xT 135 true).run Try.prog w = .ok (.tuple #[.nilIface, .bool false]) w := run_typeAssert_lacksB Try.underlying135 (by kernel_rfl) (by kernel_rfl) v xT w
theorem noUnwrapsE (v : Value) (xT : TypeId) (w : World) : (Instr.typeAssert (.iface 55 v) xT 136 true).run Try.prog w = .ok (.tuple #[.nilIface, .bool false]) w := run_typeAssert_lacksB Try.underlying136 (by kernel_rfl) (by kernel_rfl) v xT w
theorem eqNE (n : Int) (w : World) : (binOp .eql 28 (Err n) .nilIface).run Try.prog w = .ok (.bool false) w := by kernel_rfl
theorem eqNN (w : World) : (binOp .eql 28 .nilIface .nilIface).run Try.prog w = .ok (.bool true) w := by kernel_rfl
theorem eqN11 (w : World) : (binOp .eql 28 .nilIface (Err 11)).run Try.prog w = .ok (.bool false) w := by kernel_rfl
theorem eq1111 (w : World) : (binOp .eql 28 (Err 11) (Err 11)).run Try.prog w = .ok (.bool true) w := by kernel_rfl
theorem eq211 (w : World) : (binOp .eql 28 (Err 2) (Err 11)).run Try.prog w = .ok (.bool false) w := by kernel_rfl
/-- errors.Is(err, ErrStale), where err is nil, ErrForm or ErrStale. -/
theorem eis_nil (w : World) : Calls Try.prog 27 #[.nilIface, Err 11] w fun e w' => e = .returned (.bool false) ∧ w' = w := by
  have h1 := eqNN
  have h2 := eqN11
  go_enter Try.func27, Try.ntmps27
  go_wp2_with fail
  go_ret
  exact ⟨rfl, rfl⟩
theorem eis_same (w : World) : Calls Try.prog 27 #[Err 11, Err 11] w fun e w' => e = .returned (.bool true) ∧ w' = w := by
  have h8 := @run_callFunc_extern Try.prog 44 _ Extern.ReflectliteType.typeOf Try.func44 (by kernel_rfl) (by kernel_rfl) (by kernel_rfl) (by kernel_rfl)
  have h32 := @run_callFunc_extern Try.prog 101 _ cmpF Try.func101 (by kernel_rfl) (by kernel_rfl) (by kernel_rfl) (by kernel_rfl)
  have tT := isTypeOf
  have cT := isComparable
  have mR := isMethodComparable
  have h1 := eqNE 11
  have h2 := eq1111
  go_enter Try.func27, Try.ntmps27
  go_wp2
  refine wp_loop_rounds 1 ?_
  rw [rounds_succ]
  go_wp2
  go_ret
  exact ⟨rfl, rfl⟩
theorem eis_form (w : World) : Calls Try.prog 27 #[Err 2, Err 11] w fun e w' => e = .returned (.bool false) ∧ w' = w := by
  have h8 := @run_callFunc_extern Try.prog 44 _ Extern.ReflectliteType.typeOf Try.func44 (by kernel_rfl) (by kernel_rfl) (by kernel_rfl) (by kernel_rfl)
  have h32 := @run_callFunc_extern Try.prog 101 _ cmpF Try.func101 (by kernel_rfl) (by kernel_rfl) (by kernel_rfl) (by kernel_rfl)
  have tT := isTypeOf
  have cT := isComparable
  have mR := isMethodComparable
  have nE := noIsE
  have uE := noUnwrapE
  have vE := noUnwrapsE
  have h1 := eqNE 2
  have h3 := eqNE 11
  have h2 := eq211
  go_enter Try.func27, Try.ntmps27
  go_wp2
  refine wp_loop_rounds 1 ?_
  rw [rounds_succ]
  go_wp2
  go_ret
  exact ⟨rfl, rfl⟩
end Go.Proofs.Ytlhamckpgijjmaa
