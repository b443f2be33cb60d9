/-
  What floor.Div, Mod, In and spread return at every number.
-/
import Derived.Test.YtnppdachbfcfkaaRows
import Derived.Test.YtnppdachbfcfkaaPlain1
import Derived.WalkKit
import Derived.WalkSpells
import Derived.WalkLawsBesides
import Derived.Deep.QuietTactic
import Derived.BigQuiet
namespace Go.Proofs.Ytnppdachbfcfkaa
open Go.RowKit
set_option linter.unusedVariables false

set_option maxHeartbeats 400000 in
theorem spread_any (n : Int) (w : World) (h0 : -9223372036854775808 ≤ n) (h1 : n ≤ 9223372036854775807) :
    Calls Try.prog 38 #[.int .i64 n] w fun e w' => e = .returned (.int .i64 (sgn n)) ∧ w' = w := by
  have HS : Hid (n / 9223372036854775808 = sgn n) := by show _ = _; unfold sgn; split <;> omega
  go_enter Try.func38, Try.ntmps38
  go_wp2
  go_ret
  exact ⟨ret_int HS.out, rfl⟩

end Go.Proofs.Ytnppdachbfcfkaa
