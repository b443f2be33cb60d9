/-
  What floor.Div, Mod, In and spread return at every number.
-/
import Derived.Test.YtddpdmolknfjaaaRows
import Derived.Test.YtddpdmolknfjaaaPlain1
import Derived.WalkKit
import Derived.WalkSpells
import Derived.WalkLawsBesides
import Derived.Deep.QuietTactic
import Derived.BigQuiet
namespace Go.Proofs.Ytddpdmolknfjaaa
open Go.RowKit
set_option linter.unusedVariables false

end Go.Proofs.Ytddpdmolknfjaaa
