/-
  The pairs of a Hist: cell.pairs, and its iterator's contract.
-/
import Derived.RangeFuncNested
import Derived.RangeFuncBound
import Derived.RangeFuncCalls
import Derived.RangeFuncLeaves
import Derived.Shelf.Abstract
import Derived.Shelf.RegionOpen
import Derived.OwnWalkIn
import Derived.TacticsInMore
import Derived.LoopNIn
import Derived.LoopIn
import Derived.Test.YthmolbcnbcajdaaGreatPk12
namespace Go.Proofs.YthmolbcnbcajdaaGreat
set_option maxRecDepth 100000
open Go.RowKit Go.Shelf
set_option linter.unusedVariables false
attribute [local go_sem] Oper.semAt_some

/-- A place and its number. -/
abbrev Pl := { p : Nat × Int // p.1 < 65 ∧ -9223372036854775808 ≤ p.2 ∧ p.2 ≤ 9223372036854775807 }
abbrev Pl.encs (p : Pl) : Array Value := #[.int .i64 (p.1.1 : Int), .int .i64 p.1.2]
/-- The pairs of the first k places. -/
def prs (h : Nat → Int) (hb : ∀ i, i < 65 → -9223372036854775808 ≤ h i ∧ h i ≤ 9223372036854775807) : Nat → List Pl
  | 0 => []
  | k + 1 => if hk : k < 65 then (if h k = 0 then prs h hb k else prs h hb k ++ [⟨(k, h k), hk, hb k hk⟩]) else prs h hb k
theorem prs_len (h : Nat → Int) (hb) : ∀ k, (prs h hb k).length ≤ k
  | 0 => by simp [prs]
  | k + 1 => by
    have := prs_len h hb k
    unfold prs
    split
    · split
      · omega
      · simp; omega
    · omega

theorem index_hist (h : Nat → Int) (k : Nat) (hk : k < 65) (W : World) : (Instr.index 180 (.agg (HA h)) (.int .i64 (k : Int))).run Tryz.prog W = .ok (.int .i64 (h k)) W := by
  have hp : (part 3 (HA h) k).run Tryz.prog W = .ok (.int .i64 (h k)) W := by simp [part, Tryz.isAgg3, HA_at h k hk, go_sem]
  unfold Instr.index
  simp only [asIntOf, Sem.run_bind, Sem.run_pure, Result.andThen_ok, run_underlying Tryz.underlying180]
  rw [if_pos (by omega)]
  simpa [Sem.run_bind, Tryz.sizeOf3] using hp

end Go.Proofs.YthmolbcnbcajdaaGreat
