/-
  frame.Unwrap.
-/
import Derived.Test.YthmolbcnbcajdaaGreatPk22
namespace Go.Proofs.YthmolbcnbcajdaaGreat
set_option maxRecDepth 100000
open Go.RowKit
set_option linter.unusedVariables false

end Go.Proofs.YthmolbcnbcajdaaGreat
