/-
  What floor.Less returns at every two wide numbers.
-/
import Derived.Test.YtahpnkdofnnolaaWalk2
namespace Go.Proofs.Ytahpnkdofnnolaa
open Go.RowKit
set_option linter.unusedVariables false

set_option maxHeartbeats 400000 in
theorem less_any (ah al bh bl : Int) (w : World) (h0 : -9223372036854775808 ≤ ah) (h1 : ah ≤ 9223372036854775807) (l0 : 0 ≤ al) (l1 : al ≤ 18446744073709551615)
    (g0 : -9223372036854775808 ≤ bh) (g1 : bh ≤ 9223372036854775807) (m0 : 0 ≤ bl) (m1 : bl ≤ 18446744073709551615) :
    Calls Try.prog 22 #[.agg #[.int .i64 ah, .int .u64 al], .agg #[.int .i64 bh, .int .u64 bl]] w fun e w' =>
      e = .returned (.bool (decide (wv ah al < wv bh bl))) ∧ Below w.heap.size w w' := by
  by_cases c : ah = bh
  · have hc : (ah != bh) = false := by simp [c]
    have HF : Hid (decide (al < bl) = decide (wv ah al < wv bh bl)) := by
      show _ = _; rw [decide_eq_decide]; unfold wv; omega
    clear c
    go_enter Try.func22, Try.ntmps22
    go_wp2_with fail
    go_ret
    exact ⟨ret_bool HF.out, by repeat (first | exact Below.refl _ _ | refine ab_alloc ?_ _)⟩
  · have hc : (ah != bh) = true := by simp [c]
    have HF : Hid (decide (ah < bh) = decide (wv ah al < wv bh bl)) := by
      show _ = _; rw [decide_eq_decide]; unfold wv; omega
    clear c
    go_enter Try.func22, Try.ntmps22
    go_wp2_with fail
    go_ret
    exact ⟨ret_bool HF.out, by repeat (first | exact Below.refl _ _ | refine ab_alloc ?_ _)⟩
end Go.Proofs.Ytahpnkdofnnolaa
