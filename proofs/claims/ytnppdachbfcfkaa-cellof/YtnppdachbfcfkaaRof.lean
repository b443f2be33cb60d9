/-
  What the document's Of returns at every number.
-/
import Derived.Test.YtnppdachbfcfkaaWalk2
namespace Go.Proofs.Ytnppdachbfcfkaa
open Go.RowKit
set_option linter.unusedVariables false

set_option maxHeartbeats 400000 in
theorem rof2_any (n : Int) (w : World) (h0 : -9223372036854775808 ≤ n) (h1 : n ≤ 9223372036854775807) :
    Calls Try.prog 25 #[.int .i64 n] w fun e w' => e = .returned (.agg #[.int .i64 (wh n), .int .u64 (wl n)]) ∧ Below w.heap.size w w' := by
  have HF : Hid (IntKind.u64.wrap n = wl n) := by
    show _ = _; rw [IntKind.wrap_u64]; rfl
  by_cases c : n < 0
  · have HG : Hid (-1 = wh n) := by show _ = _; unfold wh; omega
    go_enter Try.func25, Try.ntmps25
    go_wp2_with fail
    exact bodyPost_ret (v := .agg #[.int .i64 (-1), .int .u64 (IntKind.u64.wrap n)]) (by simp [results, Try.results25, go_sem]) rfl ⟨by rw [HF.out, ← HG.out], (Below.refl _ _).alloc (Nat.le_refl _) _⟩
  · have HG : Hid (0 = wh n) := by show _ = _; unfold wh; omega
    go_enter Try.func25, Try.ntmps25
    go_wp2_with fail
    exact bodyPost_ret (v := .agg #[.int .i64 0, .int .u64 n]) (by simp [results, Try.results25, go_sem]) rfl ⟨by rw [← HG.out, show wl n = n by unfold wl; omega], (Below.refl _ _).alloc (Nat.le_refl _) _⟩

end Go.Proofs.Ytnppdachbfcfkaa
