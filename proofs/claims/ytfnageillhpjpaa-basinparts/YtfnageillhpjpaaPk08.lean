/-
  What floor.Div, Mod, In and spread return at every number.
-/
import Derived.Test.YtfnageillhpjpaaRows
import Derived.Test.YtfnageillhpjpaaPk01
import Derived.WalkKit
import Derived.WalkSpells
import Derived.WalkLawsBesides
import Derived.Deep.QuietTactic
import Derived.BigQuiet
namespace Go.Proofs.Ytfnageillhpjpaa
set_option maxRecDepth 100000
open Go.RowKit
set_option linter.unusedVariables false

set_option maxHeartbeats 400000 in
theorem spread_any (n : Int) (w : World) (h0 : -9223372036854775808 ≤ n) (h1 : n ≤ 9223372036854775807) :
    Calls Try.prog 56 #[.int .i64 n] w fun e w' => e = .returned (.int .i64 (sgn n)) ∧ w' = w := by
  have HS : Hid (n / 9223372036854775808 = sgn n) := by show _ = _; unfold sgn; split <;> omega
  go_enter Try.func56, Try.ntmps56
  go_wp2
  go_ret
  exact ⟨ret_int HS.out, rfl⟩

set_option maxHeartbeats 400000 in
theorem div_any (t r : Int) (w : World) (h0 : -9223372036854775808 ≤ t) (h1 : t ≤ 9223372036854775807) (g1 : r ≤ 9223372036854775807) :
    Calls Try.prog 46 #[.int .i64 t, .int .i64 r] w fun e w' => e = .returned (.int .i64 (flD t r)) ∧ ∃ n, w' = w.drewN n := by
  by_cases g : r < 1
  · have hf : flD t r = 0 := by unfold flD; rw [if_pos g]
    rw [hf]; clear hf
    go_enter Try.func46, Try.ntmps46
    go_wp2
    go_ret
    exact ⟨rfl, 0, rfl⟩
  · have HF : Hid (wrap64 (t.tdiv r + sgn (t.tmod r)) = flD t r) := by
      have h := tdiv_fl t r (by omega); have b := ediv_bd t r (by omega)
      show _ = _; unfold flD sgn; rw [if_neg g, h]; exact IntWalk.wrap64_in _ ⟨by omega, by omega⟩
    have hb : Hid (-9223372036854775808 ≤ t.tmod r ∧ t.tmod r ≤ 9223372036854775807) := by
      show _ ∧ _; have := tmod_bd t r (by omega); omega
    go_enter Try.func46, Try.ntmps46
    go_wp2_with fail
    go_quiet ((go_at_call 56; exact Calls.quiet_of_same (spread_any _ _ hb.out.1 hb.out.2)))
    go_wp2
    go_ret
    exact ⟨ret_int HF.out, _, rfl⟩

set_option maxHeartbeats 400000 in
theorem mod_any (t r : Int) (w : World) (h0 : -9223372036854775808 ≤ t) (h1 : t ≤ 9223372036854775807) (g1 : r ≤ 9223372036854775807) :
    Calls Try.prog 75 #[.int .i64 t, .int .i64 r] w fun e w' => e = .returned (.int .i64 (flM t r)) ∧ ∃ n, w' = w.drewN n := by
  by_cases g : r < 1
  · have hf : flM t r = 0 := by unfold flM; rw [if_pos g]
    rw [hf]; clear hf
    go_enter Try.func75, Try.ntmps75
    go_wp2
    go_ret
    exact ⟨rfl, 0, rfl⟩
  · have HF : Hid (wrap64 (t.tmod r + bits .and .i64 r (sgn (t.tmod r))) = flM t r) := by
      have h := tmod_fl t r (by omega); have b := tmod_bd t r (by omega)
      show _ = _; unfold flM sgn; rw [if_neg g, h]
      by_cases c : t.tmod r < 0
      · rw [if_pos c, if_pos c, and_m1 r (by omega) (by omega)]; exact IntWalk.wrap64_in _ ⟨by omega, by omega⟩
      · rw [if_neg c, if_neg c, and_0]; rw [IntWalk.wrap64_in _ ⟨by omega, by omega⟩]; omega
    have hb : Hid (-9223372036854775808 ≤ t.tmod r ∧ t.tmod r ≤ 9223372036854775807) := by
      show _ ∧ _; have := tmod_bd t r (by omega); omega
    go_enter Try.func75, Try.ntmps75
    go_wp2_with fail
    refine (spread_any _ _ hb.out.1 hb.out.2).mono ?_
    rintro e w' ⟨rfl, rfl⟩
    go_wp2
    go_ret
    exact ⟨ret_int HF.out, 0, rfl⟩
end Go.Proofs.Ytfnageillhpjpaa
