/-
  What floor.Div, Mod, In and spread return at every number.
-/
import Derived.Test.YthpiajnnfchcjaaRows
import Derived.Test.YthpiajnnfchcjaaPlain1
import Derived.WalkKit
import Derived.WalkSpells
import Derived.WalkLawsBesides
import Derived.Deep.QuietTactic
import Derived.BigQuiet
namespace Go.Proofs.Ythpiajnnfchcjaa
open Go.RowKit
set_option linter.unusedVariables false

end Go.Proofs.Ythpiajnnfchcjaa
