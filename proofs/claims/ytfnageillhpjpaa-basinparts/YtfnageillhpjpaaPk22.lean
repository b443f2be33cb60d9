/-
  The pairs of a Hist: cell.pairs, and its iterator's contract.
-/
import Derived.RangeFuncNested
import Derived.RangeFuncBound
import Derived.RangeFuncCalls
import Derived.RangeFuncLeaves
import Derived.Shelf.Abstract
import Derived.Shelf.RegionOpen
import Derived.OwnWalkIn
import Derived.TacticsInMore
import Derived.LoopNIn
import Derived.LoopIn
import Derived.Test.YtfnageillhpjpaaPk14
namespace Go.Proofs.Ytfnageillhpjpaa
set_option maxRecDepth 100000
open Go.RowKit Go.Shelf
set_option linter.unusedVariables false
attribute [local go_sem] Oper.semAt_some

/-- A place and its number. -/
abbrev Pl := { p : Nat × Int // p.1 < 65 ∧ -9223372036854775808 ≤ p.2 ∧ p.2 ≤ 9223372036854775807 }
abbrev Pl.encs (p : Pl) : Array Value := #[.int .i64 (p.1.1 : Int), .int .i64 p.1.2]
/-- The pairs of the first k places. -/
def prs (h : Nat → Int) (hb : ∀ i, i < 65 → -9223372036854775808 ≤ h i ∧ h i ≤ 9223372036854775807) : Nat → List Pl
  | 0 => []
  | k + 1 => if hk : k < 65 then (if h k = 0 then prs h hb k else prs h hb k ++ [⟨(k, h k), hk, hb k hk⟩]) else prs h hb k
theorem prs_len (h : Nat → Int) (hb) : ∀ k, (prs h hb k).length ≤ k
  | 0 => by simp [prs]
  | k + 1 => by
    have := prs_len h hb k
    unfold prs
    split
    · split
      · omega
      · simp; omega
    · omega

theorem pairs_any (h : Nat → Int) (w : World) :
    Calls Try.prog 78 #[.agg (HA h)] w fun e w' => e = .returned (.func (.func 88) #[] #[.pointer (some ⟨w.heap.size, 0, none⟩)]) ∧ w' = w.alloc (.cells (HA h) 52) := by
  go_enter Try.func78, Try.ntmps78
  go_wp2_with fail
  go_ret
  exact ⟨rfl, rfl⟩

theorem index_hist (h : Nat → Int) (k : Nat) (hk : k < 65) (W : World) : (Instr.index 52 (.agg (HA h)) (.int .i64 (k : Int))).run Try.prog W = .ok (.int .i64 (h k)) W := by
  have hp : (part 3 (HA h) k).run Try.prog W = .ok (.int .i64 (h k)) W := by simp [part, Try.isAgg3, HA_at h k hk, go_sem]
  unfold Instr.index
  simp only [asIntOf, Sem.run_bind, Sem.run_pure, Result.andThen_ok, run_underlying Try.underlying52]
  rw [if_pos (by omega)]
  simpa [Sem.run_bind, Try.sizeOf3] using hp

theorem pairs_stops (n : Nat) (hn : 1 ≤ n) (B : Nat) (h : Nat → Int) (hb : ∀ i, i < 65 → -9223372036854775808 ≤ h i ∧ h i ≤ 9223372036854775807) (w : World) (hB : Blk w B (HA h) 52) (Kp : World → World → Prop) :
    SeqStopsK Fence.wide n Try.prog 88 #[.pointer (some ⟨B, 0, none⟩)] Pl.encs Kp (fun xs => xs = prs h hb 65) (fun _ => True) 65 w := fun l J Jx W hW _ _ hY h0 => by
  have hBW := hB.keep hW
  have IX := fun (k : Nat) (hk : k < 65) => index_hist h k hk
  refine callsIn_wide.2 ?_
  go_enter Try.func88, Try.ntmps88
  go_wp2_with (refine ld_hist rfl rfl hBW rfl ?_)
  refine (wpIn_wide (n := n)).1 ?_
  gi_loopw [6] (fun i wr => ∃ k : Nat, k ≤ 65 ∧ i = .int .i64 (k : Int) ∧ J (prs h hb k) wr) (fun i _ => 65 - (intOf i).toNat)
  case atStart => exact ⟨0, by omega, rfl, h0⟩
  case round =>
    obtain ⟨k, hk, rfl, hJ⟩ := hrel
    by_cases c : k = 65
    · subst c
      gi_wp2
      go_end0
      exact ⟨⟨_, rfl⟩, .inl ⟨_, rfl, hJ⟩⟩
    · have hk' : k < 65 := by omega
      have hix := IX k hk'
      by_cases z : h k = 0
      · have HP : Hid (prs h hb (k + 1) = prs h hb k) := by show _ = _; rw [prs, dif_pos hk', if_pos z]
        gi_wp2
        refine ⟨fun _ h => (by cases h), ?_⟩
        gi_wp2
        go_roundw
        case rel => exact ⟨k + 1, by omega, by go_num, HP.out ▸ hJ⟩
        case measure => simp [intOf]; omega
      · have HP : Hid (prs h hb (k + 1) = prs h hb k ++ [⟨(k, h k), hk', hb k hk'⟩]) := by show _ = _; rw [prs, dif_pos hk', if_neg z]
        obtain ⟨fn, tmps, assign, body, hy, hR⟩ := hY (prs h hb k) ⟨(k, h k), hk', hb k hk'⟩ wr hJ (by have := prs_len h hb k; omega)
        dsimp only [Pl.encs] at hy
        gi_wp2
        refine hR.mono ?_
        rintro e W3 (⟨rfl, hJ3, _⟩ | ⟨rfl, hJx3⟩)
        · gi_wp2
          go_roundw
          case rel => exact ⟨k + 1, by omega, by go_num, HP.out ▸ hJ3⟩
          case measure => simp [intOf]; omega
        · gi_wp2
          refine bodyPost_ret (results_none rfl _ _ _) rfl ?_
          exact ⟨⟨_, rfl⟩, .inr ⟨_, trivial, hJx3⟩⟩
end Go.Proofs.Ytfnageillhpjpaa
