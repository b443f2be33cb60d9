/-
  What the laws call besides: alive, large, estuarynum.Num.
-/
import Derived.Test.YtfnageillhpjpaaPk24
import Derived.Lib.SmallJoins
namespace Go.Proofs.Ytfnageillhpjpaa
set_option maxRecDepth 100000
open Go.RowKit
set_option linter.unusedVariables false

theorem ex_nums : strB ([] ++ numsB [0, -1, 1, -300]) = ⟨#[0, 1, 1, 1, 2, 2, 87, 2]⟩ := by decide +kernel
theorem ex_frm : strB (frm ([] : List (List Nat)).flatten) = ⟨#[0, 0, 0, 0, 197, 157, 28, 129]⟩ := by decide +kernel
theorem isl4 (a b c d : Int) (w : World) : (Instr.buildSlice 23 4 #[(0, .int .i64 a), (1, .int .i64 b), (2, .int .i64 c), (3, .int .i64 d)]).run Try.prog w = .ok (.slice (some ⟨w.heap.size, 0, none⟩) 4 4) (w.alloc (.cells (ints [a, b, c, d]).toArray 3)) := by kernel_rfl
/-- What large answers. -/
def LP (ls : List (List Nat)) (e : Ending) : Prop := ∃ r : Bool, e = .returned (.bool r) ∧ (r = false → ls.length ≤ 300 ∧ ls.flatten.length ≤ 65536)
theorem ta_err (n : Int) (w : World) : (Instr.typeAssert (Err n) 32 35 true).run Try.prog w = .ok (.tuple #[.int .i64 n, .bool true]) w := by kernel_rfl
/-- '==' of two errors. -/
theorem eq33 (w : World) : (binOp .eql 32 (Err 3) (Err 3)).run Try.prog w = .ok (.bool true) w := by kernel_rfl
theorem ne33 (w : World) : (binOp .neq 32 (Err 3) (Err 3)).run Try.prog w = .ok (.bool false) w := by kernel_rfl
theorem eq77 (w : World) : (binOp .eql 32 (Err 7) (Err 7)).run Try.prog w = .ok (.bool true) w := by kernel_rfl
theorem eq30 (w : World) : (binOp .eql 32 (Err 3) .nilIface).run Try.prog w = .ok (.bool false) w := by kernel_rfl
theorem ne30 (w : World) : (binOp .neq 32 (Err 3) .nilIface).run Try.prog w = .ok (.bool true) w := by kernel_rfl
theorem ne70 (w : World) : (binOp .neq 32 (Err 7) .nilIface).run Try.prog w = .ok (.bool true) w := by kernel_rfl
theorem ne00 (w : World) : (binOp .neq 32 .nilIface .nilIface).run Try.prog w = .ok (.bool false) w := by kernel_rfl
theorem eq00 (w : World) : (binOp .eql 32 .nilIface .nilIface).run Try.prog w = .ok (.bool true) w := by kernel_rfl
/-- The error of a number. -/
def errV (n : Nat) : Value := if n = 0 then .nilIface else Err n
theorem errV_ok {n : Nat} (h : n = 0) : errV n = .nilIface := if_pos h
theorem errV_no {n : Nat} (h : n ≠ 0) : errV n = Err n := if_neg h
end Go.Proofs.Ytfnageillhpjpaa
