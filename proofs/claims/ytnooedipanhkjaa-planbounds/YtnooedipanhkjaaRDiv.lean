/-
  What the document's own Div and Mod return at every number.
-/
import Derived.Test.YtnooedipanhkjaaWalk2
namespace Go.Proofs.Ytnooedipanhkjaa
set_option maxRecDepth 100000
open Go.RowKit
set_option linter.unusedVariables false

theorem ref_div (t r : Int) (ht : t < 0) (hr : 1 ≤ r) : (t + 1).tdiv r - 1 = t / r := by
  have h := tdiv_fl (t + 1) r hr
  have m := tmod_fl (t + 1) r hr
  have b := tmod_bd (t + 1) r hr
  have e1 := Int.mul_ediv_add_emod (t + 1) r
  have e2 := Int.mul_ediv_add_emod t r
  have p1 := Int.emod_nonneg (t + 1) (b := r) (by omega)
  have p2 := Int.emod_lt_of_pos (t + 1) (b := r) (by omega)
  have p3 := Int.emod_nonneg t (b := r) (by omega)
  have p4 := Int.emod_lt_of_pos t (b := r) (by omega)
  have key : t / r = (t + 1) / r - (if (t + 1) % r = 0 then 1 else 0) := by
    split
    · rename_i z
      have : t = r * ((t + 1) / r - 1) + (r - 1) := by rw [Int.mul_sub]; omega
      refine (Int.ediv_emod_unique (a := t) (b := r) (r := r - 1) (by omega)).2 ⟨?_, by omega, by omega⟩ |>.1
      omega
    · rename_i z
      refine (Int.ediv_emod_unique (a := t) (b := r) (r := (t + 1) % r - 1) (by omega)).2 ⟨?_, by omega, by omega⟩ |>.1
      simp only [Int.sub_zero]; omega
  have neg : (t + 1).tmod r ≤ 0 := by
    rw [Int.tmod_eq_emod]
    have h6 : r ∣ (t + 1) ↔ (t + 1) % r = 0 := Int.dvd_iff_emod_eq_zero
    split
    · rename_i c; rcases c with c | c
      · have : t + 1 = 0 := by omega
        rw [this]; simp
      · have := h6.1 c; omega
    · omega
  rw [key]
  by_cases z : (t + 1).tmod r < 0
  · rw [if_pos z] at h m
    rw [if_neg (by omega)]; omega
  · rw [if_neg z] at h m
    rw [if_pos (by omega)]; omega

theorem ref_mod (t r : Int) (ht : t < 0) (hr : 1 ≤ r) : r - 1 - (-(t + 1)) % r = t % r := by
  have e1 := Int.mul_ediv_add_emod (-(t + 1)) r
  have p1 := Int.emod_nonneg (-(t + 1)) (b := r) (by omega)
  have p2 := Int.emod_lt_of_pos (-(t + 1)) (b := r) (by omega)
  have := (Int.ediv_emod_unique (a := t) (b := r) (r := r - 1 - (-(t + 1)) % r) (q := - ((-(t + 1)) / r) - 1) (by omega)).2 ⟨by rw [Int.mul_sub, Int.mul_neg]; omega, by omega, by omega⟩
  exact this.2.symm

set_option maxHeartbeats 400000 in
theorem rmod_any (t r : Int) (w : World) (h0 : -9223372036854775808 ≤ t) (h1 : t ≤ 9223372036854775807) (g1 : r ≤ 9223372036854775807) :
    Calls Try.prog 27 #[.int .i64 t, .int .i64 r] w fun e w' => e = .returned (.int .i64 (flM t r)) ∧ w' = w := by
  by_cases g : r < 1
  · have hf : flM t r = 0 := by unfold flM; rw [if_pos g]
    rw [hf]; clear hf
    go_enter Try.func27, Try.ntmps27
    go_wp2
    go_ret
    exact ⟨rfl, rfl⟩
  · by_cases c : 0 ≤ t
    · have HF : Hid (t % r = flM t r) := by show _ = _; unfold flM; rw [if_neg g]
      go_enter Try.func27, Try.ntmps27
      go_wp2
      go_ret
      exact ⟨ret_int HF.out, rfl⟩
    · have HF : Hid (wrap64 (r - 1 + (t + 1).tmod r) = flM t r) := by
        have b := flM_bd t r g1
        have e : (t + 1).tmod r = - ((-(t + 1)) % r) := by
          have := Int.neg_tmod (-(t + 1)) r
          rw [Int.neg_neg] at this; rw [this, Int.tmod_eq_emod_of_nonneg (by omega)]
        have m := ref_mod t r (by omega) (by omega)
        show _ = _; rw [e]; unfold flM at *; rw [if_neg g] at *; rw [show r - 1 + -(-(t + 1) % r) = t % r by omega]; exact IntWalk.wrap64_in _ ⟨by omega, by omega⟩
      go_enter Try.func27, Try.ntmps27
      go_wp2
      go_ret
      exact ⟨ret_int HF.out, rfl⟩
end Go.Proofs.Ytnooedipanhkjaa
