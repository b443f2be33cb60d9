/-
  Strings of bytes: lengths, sums, parts.
-/
import Derived.Test.YtoofgidmegplbaaTpG
import Derived.Laws.Concat
namespace Go.Proofs.Ytoofgidmegplbaa
open Go.RowKit
set_option linter.unusedVariables false

theorem strB_len (l : List Nat) : (strB l).size = l.length := by
  simp [strB, strOfNums, ByteArray.size]
theorem add_strs (a b : ByteArray) (h : a.size + b.size ≤ 9223372036854775807) (w : World) : (binOp .add 9 (.string a) (.string b)).run Try.prog w = .ok (.string (a ++ b)) w := by
  have := run_string_add_sum (P := Try.prog) (w := w) a b h
  simp [binOp, this]
theorem add_strB (l m : List Nat) (h : l.length + m.length ≤ 9223372036854775807) (w : World) : (binOp .add 9 (.string (strB l)) (.string (strB m))).run Try.prog w = .ok (.string (strB (l ++ m))) w := by
  rw [add_strs _ _ (by rw [strB_len, strB_len]; exact h), strB_app]
end Go.Proofs.Ytoofgidmegplbaa
