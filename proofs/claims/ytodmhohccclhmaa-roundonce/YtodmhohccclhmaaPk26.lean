/-
  A letter is delivered to a keeper (written out by wip/tools/deliver11.py).
-/
import Derived.Test.YtodmhohccclhmaaPk25
namespace Go.Proofs.Ytodmhohccclhmaa
open Go.RowKit
set_option linter.unusedVariables false
set_option maxRecDepth 100000

theorem neqErr (n : Int) (w : World) : (binOp .neq 55 (Err n) .nilIface).run Try.prog w = .ok (.bool true) w := by kernel_rfl
end Go.Proofs.Ytodmhohccclhmaa
