/-
  What floor.tenth and floor.amount return, and bits.Div64 at the divisor ten.
-/
import Derived.Test.YtahpnkdofnnolabWalk2
import Derived.Laws.Bits64b
namespace Go.Proofs.Ytahpnkdofnnolab
open Go.RowKit
set_option linter.unusedVariables false

theorem ret_2 {k k' : IntKind} {a b a' b' : Int} (h : a = b) (h' : a' = b') : Ending.returned (.tuple #[.int k a, .int k' a']) = .returned (.tuple #[.int k b, .int k' b']) := by rw [h, h']
theorem ret_3 {k k' k'' : IntKind} {a b a' b' a'' b'' : Int} (h : a = b) (h' : a' = b') (h'' : a'' = b'') : Ending.returned (.tuple #[.int k a, .int k' a', .int k'' a'']) = .returned (.tuple #[.int k b, .int k' b', .int k'' b'']) := by rw [h, h', h'']

set_option maxHeartbeats 400000 in
set_option maxRecDepth 100000 in
theorem len64_10 (w : World) :
    Calls Try.prog 33 #[.int .u64 10] w fun e w' => e = .returned (.int .i64 4) ∧ w' = w := by
  go_enter Try.func33, Try.ntmps33
  go_wp2
  go_ret
  exact ⟨ret_int (by decide +kernel), rfl⟩

theorem or_join (h l : Int) (h0 : 0 ≤ h) (h1 : h < 16) (l0 : 0 ≤ l) (l1 : l < 1152921504606846976) : bits .or .u64 (h * 1152921504606846976) l = h * 1152921504606846976 + l := by
  obtain ⟨H, rfl⟩ := Int.eq_ofNat_of_zero_le h0
  obtain ⟨L, rfl⟩ := Int.eq_ofNat_of_zero_le l0
  have e : (H : Int) * 1152921504606846976 = ((2 ^ 60 * H : Nat) : Int) := by omega
  rw [e, bits_or_u64_nat _ _ (by omega) (by omega), ← Nat.two_pow_add_eq_or_of_lt (i := 60) (by omega)]
  omega
theorem and_high (v : Int) (h0 : 0 ≤ v) (h1 : v < 16) : bits .and .u64 (v * 1152921504606846976) 4294967295 = 0 := by
  obtain ⟨H, rfl⟩ := Int.eq_ofNat_of_zero_le h0
  have e : (H : Int) * 1152921504606846976 = ((2 ^ 60 * H : Nat) : Int) := by omega
  have e2 : (4294967295 : Int) = ((2 ^ 32 - 1 : Nat) : Int) := by decide
  rw [e, e2, bits_and_u64_nat _ _ (by omega) (by omega), Nat.and_two_pow_sub_one_eq_mod]
  omega

set_option maxHeartbeats 400000 in
theorem lz64_10 (w : World) :
    Calls Try.prog 32 #[.int .u64 10] w fun e w' => e = .returned (.int .i64 60) ∧ w' = w := by
  go_enter Try.func32, Try.ntmps32
  go_wp2_with fail
  refine (len64_10 _).mono ?_
  rintro e w' ⟨rfl, rfl⟩
  go_wp2_with fail
  go_ret
  exact ⟨rfl, rfl⟩

set_option maxHeartbeats 400000 in
theorem div64_10 (hi lo : Int) (w : World) (h0 : 0 ≤ hi) (h1 : hi < 10) (l0 : 0 ≤ lo) (l1 : lo ≤ 18446744073709551615) :
    Calls Try.prog 29 #[.int .u64 hi, .int .u64 lo, .int .u64 10] w fun e w' => e = .returned (.tuple #[.int .u64 (wv hi lo / 10), .int .u64 (wv hi lo % 10)]) ∧ ∃ n, w' = w.drewN n := by
  by_cases c : hi = 0
  · subst c
    have HF : Hid (lo / 10 = wv 0 lo / 10 ∧ lo % 10 = wv 0 lo % 10) := by show _ ∧ _; unfold wv; omega
    go_enter Try.func29, Try.ntmps29
    go_wp2_with fail
    go_quiet (fail)
    go_wp2
    go_ret2
    rw [← HF.out.1, ← HF.out.2]
    exact ⟨rfl, _, rfl⟩
  · have hc : (hi == 0) = false := by simp [c]
    clear c
    have e1 : bits .and .u64 11529215046068469760 4294967295 = 0 := by decide +kernel
    obtain ⟨U, hU⟩ : ∃ U, U = hi * 1152921504606846976 + lo / 16 := ⟨_, rfl⟩
    obtain ⟨v, hv⟩ : ∃ v, v = lo % 16 := ⟨_, rfl⟩
    have e2 := or_join hi (lo / 16) h0 (by omega) (by omega) (by omega)
    have e4 := and_high v (by omega) (by omega)
    have e3 : IntKind.u64.wrap (lo * 1152921504606846976) = v * 1152921504606846976 := by rw [IntKind.wrap_u64]; omega
    rw [← hU] at e2
    have hU0 : 0 ≤ U := by omega
    have hU1 : U ≤ 11529215046068469759 := by omega
    have hv0 : 0 ≤ v := by omega
    have hv1 : v ≤ 15 := by omega
    obtain ⟨X, hX⟩ : ∃ X, X = (U % 2684354560) * 4294967296 + v * 268435456 := ⟨_, rfl⟩
    have e5 : IntKind.u64.wrap (IntKind.u64.wrap (IntKind.u64.wrap (U * 4294967296) + v * 1152921504606846976 / 4294967296) - IntKind.u64.wrap (U / 2684354560 * 11529215046068469760)) = X := by
      simp only [IntKind.wrap_u64]; omega
    have hX0 : 0 ≤ X := by omega
    have hX1 : X ≤ 11529215046068469759 := by omega
    have HX : Hid (X = (U % 2684354560) * 4294967296 + v * 268435456) := hX
    clear hX
    have HU : Hid (U = hi * 1152921504606846976 + lo / 16) := hU
    have HV : Hid (v = lo % 16) := hv
    clear hU hv
    go_enter Try.func29, Try.ntmps29
    go_wp2_with fail
    refine (lz64_10 _).mono ?_
    rintro e w' ⟨rfl, rfl⟩
    go_wp2_with fail
    refine wp_loop_rounds 1 ?_
    rw [rounds_succ]
    go_wp2_with fail
    refine wp_loop_rounds 1 ?_
    rw [rounds_succ]
    go_wp2_with fail
    go_ret2
    refine ⟨ret_2 ?_ ?_, 0, rfl⟩
    · have a := HU.out; have b := HV.out; have c := HX.out; unfold wv; omega
    · have a := HU.out; have b := HV.out; have c := HX.out; simp only [IntKind.wrap_u64]; unfold wv; omega

set_option maxHeartbeats 400000 in
theorem tenth_any (hi lo : Int) (w : World) (h0 : 0 ≤ hi) (h1 : hi ≤ 18446744073709551615) (l0 : 0 ≤ lo) (l1 : lo ≤ 18446744073709551615) :
    Calls Try.prog 20 #[.int .u64 hi, .int .u64 lo] w fun e w' => e = .returned (.tuple #[.int .u64 (wv hi lo / 10 / 18446744073709551616), .int .u64 (wv hi lo / 10 % 18446744073709551616), .int .u64 (wv hi lo % 10)]) ∧ ∃ n, w' = w.drewN n := by
  go_enter Try.func20, Try.ntmps20
  go_wp2_with fail
  refine (div64_10 _ _ _ (by omega) (by omega) l0 l1).mono ?_
  rintro e w' ⟨rfl, n, rfl⟩
  go_wp2_with fail
  go_ret3
  refine ⟨ret_3 ?_ ?_ ?_, n, rfl⟩ <;> (unfold wv; omega)

set_option maxHeartbeats 400000 in
theorem amount_any (ah al : Int) (w : World) (h0 : -9223372036854775808 ≤ ah) (h1 : ah ≤ 9223372036854775807) (l0 : 0 ≤ al) (l1 : al ≤ 18446744073709551615) :
    Calls Try.prog 19 #[.agg #[.int .i64 ah, .int .u64 al]] w fun e w' => e = .returned (.tuple #[.int .u64 ((wv ah al).natAbs / 18446744073709551616 : Nat), .int .u64 ((wv ah al).natAbs % 18446744073709551616 : Nat)]) ∧ Below w.heap.size w w' := by
  by_cases c : ah < 0
  · go_enter Try.func19, Try.ntmps19
    go_wp2_with fail
    refine (neg_any _ _ _ h0 h1 l0 l1).mono ?_
    rintro e w' ⟨rfl, hb⟩
    obtain ⟨hc, hf⟩ := bcell hb
    have hz : w.heap.size < w'.heap.size := by have := hb.size; simp at this; omega
    go_wp2_with fail
    go_quiet (fail)
    go_wp2_with fail
    go_ret2
    have b := wv_bd ah al h0 h1 l0 l1
    have g : wv ah al < 0 := by unfold wv; omega
    refine ⟨ret_2 ?_ ?_, ?_⟩
    · rw [IntKind.wrap_u64]; unfold wh; omega
    · unfold wl; omega
    · repeat (first | exact Below.refl _ _ | refine ab_drewN ?_ _ | refine ab_set ?_ (by dsimp only; omega) _ | refine ab_alloc ?_ _ | refine ab_trans ?_ hb)
  · have c' : ¬ ah < 0 := c
    go_enter Try.func19, Try.ntmps19
    go_wp2_with fail
    go_quiet (fail)
    go_wp2_with fail
    go_ret2
    have g : 0 ≤ wv ah al := by unfold wv; omega
    have v : wv ah al = ah * 18446744073709551616 + al := rfl
    refine ⟨ret_2 ?_ ?_, ?_⟩
    · omega
    · omega
    · repeat (first | exact Below.refl _ _ | refine ab_drewN ?_ _ | refine ab_set ?_ (by dsimp only; omega) _ | refine ab_alloc ?_ _)
end Go.Proofs.Ytahpnkdofnnolab
