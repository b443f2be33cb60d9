/-
  math/bits.Mul of 1 and a small number.
-/
import Derived.Test.YteffpgodookebaaGreatPk27
namespace Go.Proofs.YteffpgodookebaaGreat
open Go.RowKit
set_option linter.unusedVariables false
set_option maxRecDepth 100000

theorem smul_any (c : Nat) (hc : c ≤ 12) (w : World) : Calls Tryz.prog 117 #[.int .u64 1, .int .u64 (c : Int)] w fun e w' => e = .returned (.tuple #[.int .u64 0, .int .u64 (c : Int)]) ∧ w' = w := by
  have h : c = 0 ∨ c = 1 ∨ c = 2 ∨ c = 3 ∨ c = 4 ∨ c = 5 ∨ c = 6 ∨ c = 7 ∨ c = 8 ∨ c = 9 ∨ c = 10 ∨ c = 11 ∨ c = 12 := by omega
  rcases h with rfl | rfl | rfl | rfl | rfl | rfl | rfl | rfl | rfl | rfl | rfl | rfl | rfl
  all_goals
    go_enter Tryz.func117, Tryz.ntmps117
    go_wp2_with (go_in)
    go_ret2
    exact ⟨rfl, rfl⟩
end Go.Proofs.YteffpgodookebaaGreat
