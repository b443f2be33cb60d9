/-
  What floor.Div, Mod, In and spread return at every number.
-/
import Derived.Test.YtlhamckpgijjmaaRows
import Derived.Test.YtlhamckpgijjmaaPk02
import Derived.WalkKit
import Derived.WalkSpells
import Derived.WalkLawsBesides
import Derived.Deep.QuietTactic
import Derived.BigQuiet
namespace Go.Proofs.Ytlhamckpgijjmaa
open Go.RowKit
set_option linter.unusedVariables false

end Go.Proofs.Ytlhamckpgijjmaa
