/-
  What floor.Div, Mod, In and spread return at every number.
-/
import Derived.Test.YteililgfjnoabaaRows
import Derived.Test.YteililgfjnoabaaPlain1
import Derived.WalkKit
import Derived.WalkSpells
import Derived.WalkLawsBesides
import Derived.Deep.QuietTactic
import Derived.BigQuiet
namespace Go.Proofs.Yteililgfjnoabaa
open Go.RowKit
set_option linter.unusedVariables false

end Go.Proofs.Yteililgfjnoabaa
