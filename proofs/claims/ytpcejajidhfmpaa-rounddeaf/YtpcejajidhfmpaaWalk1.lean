/-
  What floor.Div, Mod, In and spread return at every number.
-/
import Derived.Test.YtpcejajidhfmpaaRows
import Derived.Test.YtpcejajidhfmpaaPlain1
import Derived.WalkKit
import Derived.WalkSpells
import Derived.WalkLawsBesides
import Derived.Deep.QuietTactic
import Derived.BigQuiet
namespace Go.Proofs.Ytpcejajidhfmpaa
open Go.RowKit
set_option linter.unusedVariables false

end Go.Proofs.Ytpcejajidhfmpaa
