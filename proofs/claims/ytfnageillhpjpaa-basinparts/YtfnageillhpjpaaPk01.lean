/-
  Plain facts on whole numbers that are divided downwards; no program in sight.
-/
import Derived.WalkKit
import Derived.Laws.Bits64
namespace Go.Proofs.Ytfnageillhpjpaa
set_option maxRecDepth 100000

theorem ret_int {k : IntKind} {a b : Int} (h : a = b) : Ending.returned (.int k a) = .returned (.int k b) := by rw [h]
theorem ret_bool {a b : Bool} (h : a = b) : Ending.returned (.bool a) = .returned (.bool b) := by rw [h]

theorem tdiv_fl (t r : Int) (g0 : 1 ≤ r) : t.tdiv r + (if t.tmod r < 0 then -1 else 0) = t / r := by
  rw [Int.tdiv_eq_ediv, Int.tmod_eq_emod]
  have hs : r.sign = 1 := Int.sign_eq_one_of_pos (by omega)
  have h3 := Int.emod_nonneg t (b := r) (by omega)
  have h4 := Int.emod_lt_of_pos t (b := r) (by omega)
  have h6 : r ∣ t ↔ t % r = 0 := Int.dvd_iff_emod_eq_zero
  rw [hs]
  by_cases c : 0 ≤ t ∨ r ∣ t
  · rw [if_pos c, if_pos c]
    have : ¬ (t % r - (0 : Nat) < 0) := by omega
    simp only [this, if_false]; simp
  · rw [if_neg c, if_neg c]
    have : (t % r - (r.natAbs : Nat) < 0) := by omega
    simp only [this, if_true]; omega

theorem tmod_fl (t r : Int) (g0 : 1 ≤ r) : t % r = if t.tmod r < 0 then t.tmod r + r else t.tmod r := by
  rw [Int.tmod_eq_emod]
  have h3 := Int.emod_nonneg t (b := r) (by omega)
  have h4 := Int.emod_lt_of_pos t (b := r) (by omega)
  have h6 : r ∣ t ↔ t % r = 0 := Int.dvd_iff_emod_eq_zero
  by_cases c : 0 ≤ t ∨ r ∣ t
  · rw [if_pos c]
    have : ¬ (t % r - (0 : Nat) < 0) := by omega
    simp only [this, if_false]; simp
  · rw [if_neg c]
    have : (t % r - (r.natAbs : Nat) < 0) := by omega
    simp only [this, if_true]; omega

theorem tmod_bd (t r : Int) (g0 : 1 ≤ r) : - r < t.tmod r ∧ t.tmod r < r := by
  have h3 := Int.emod_nonneg t (b := r) (by omega)
  have h4 := Int.emod_lt_of_pos t (b := r) (by omega)
  have h := tmod_fl t r g0
  have hz : t.tmod r ≠ 0 → ¬ (0 ≤ t ∨ r ∣ t) → t.tmod r < 0 := by
    intro _ c; rw [Int.tmod_eq_emod, if_neg c]; omega
  rw [Int.tmod_eq_emod] at *
  have h6 : r ∣ t ↔ t % r = 0 := Int.dvd_iff_emod_eq_zero
  by_cases c : 0 ≤ t ∨ r ∣ t
  · rw [if_pos c]; simp; omega
  · rw [if_neg c]; omega

theorem ediv_bd (t r : Int) (g0 : 1 ≤ r) : (0 ≤ t → 0 ≤ t / r ∧ t / r ≤ t) ∧ (t < 0 → t ≤ t / r ∧ t / r < 0) := by
  refine ⟨fun h => ⟨Int.ediv_nonneg h (by omega), Int.ediv_le_self _ h⟩, fun h => ⟨?_, Int.ediv_neg_of_neg_of_pos h (by omega)⟩⟩
  refine Int.le_ediv_of_mul_le (by omega) ?_
  have : t * (r - 1) ≤ 0 := Int.mul_nonpos_of_nonpos_of_nonneg (by omega) (by omega)
  rw [Int.mul_sub] at this; omega

theorem ediv_mono (t u r : Int) (g0 : 1 ≤ r) (h : t ≤ u) : t / r ≤ u / r := Int.ediv_le_ediv (by omega) h

theorem wrap_i64 (n : Int) : IntKind.i64.wrap n = (n + 9223372036854775808) % 18446744073709551616 - 9223372036854775808 := by
  simp only [IntKind.wrap, IntKind.bits, IntKind.signed]; simp; split <;> omega
theorem ofInt_nat (r : Int) : ((BitVec.ofInt 64 r).toNat : Int) = r % 18446744073709551616 := by
  rw [BitVec.toNat_ofInt]; simp; omega
theorem and_m1 (r : Int) (h0 : -9223372036854775808 ≤ r) (h1 : r ≤ 9223372036854775807) : bits .and .i64 r (-1) = r := by
  have e : (BitVec.ofInt 64 (-1)) = BitVec.allOnes 64 := by decide
  show IntKind.i64.wrap ((BitVec.ofInt 64 r &&& BitVec.ofInt 64 (-1)).toNat : Int) = _
  rw [e, BitVec.and_allOnes, ofInt_nat, wrap_i64]; omega
theorem and_0 (r : Int) : bits .and .i64 r 0 = 0 := by
  have e : (BitVec.ofInt 64 0) = 0#64 := by decide
  show IntKind.i64.wrap ((BitVec.ofInt 64 r &&& BitVec.ofInt 64 0).toNat : Int) = _
  rw [e, BitVec.and_zero, wrap_i64]; simp
theorem xor_0 (r : Int) (h0 : -9223372036854775808 ≤ r) (h1 : r ≤ 9223372036854775807) : bits .xor .i64 r 0 = r := by
  have e : (BitVec.ofInt 64 0) = 0#64 := by decide
  show IntKind.i64.wrap ((BitVec.ofInt 64 r ^^^ BitVec.ofInt 64 0).toNat : Int) = _
  rw [e, BitVec.xor_zero, ofInt_nat, wrap_i64]; omega
theorem xor_m1 (r : Int) (h0 : -9223372036854775808 ≤ r) (h1 : r ≤ 9223372036854775807) : bits .xor .i64 r (-1) = - r - 1 := by
  have e : (BitVec.ofInt 64 (-1)) = BitVec.allOnes 64 := by decide
  show IntKind.i64.wrap ((BitVec.ofInt 64 r ^^^ BitVec.ofInt 64 (-1)).toNat : Int) = _
  have h := ofInt_nat r
  rw [e, BitVec.xor_allOnes, BitVec.toNat_not, wrap_i64]; omega
theorem not_i64 (r : Int) (h0 : -9223372036854775808 ≤ r) (h1 : r ≤ 9223372036854775807) : bits .xor .i64 (-1) r = - r - 1 := by
  have e : (BitVec.ofInt 64 (-1)) = BitVec.allOnes 64 := by decide
  show IntKind.i64.wrap ((BitVec.ofInt 64 (-1) ^^^ BitVec.ofInt 64 r).toNat : Int) = _
  have h := ofInt_nat r
  rw [e, BitVec.allOnes_xor, BitVec.toNat_not, wrap_i64]; omega
theorem not_u64 (r : Int) (h0 : 0 ≤ r) (h1 : r ≤ 18446744073709551615) : bits .xor .u64 18446744073709551615 r = 18446744073709551615 - r := by
  have e : (BitVec.ofInt 64 18446744073709551615) = BitVec.allOnes 64 := by decide
  show IntKind.u64.wrap ((BitVec.ofInt 64 18446744073709551615 ^^^ BitVec.ofInt 64 r).toNat : Int) = _
  have h := ofInt_nat r
  rw [e, BitVec.allOnes_xor, BitVec.toNat_not, IntKind.wrap_u64]; omega
theorem and_mask (t : Int) (s : Nat) (hs : s < 63) : bits .and .i64 t ((2 : Int) ^ s - 1) = t % (2 : Int) ^ s := by
  have hp : (2 : Nat) ^ s ≤ 2 ^ 62 := Nat.pow_le_pow_right (by omega) (by omega)
  have h1p : 0 < (2 : Nat) ^ s := Nat.pow_pos (by omega)
  have ec : ((2 : Int) ^ s) = (((2 : Nat) ^ s : Nat) : Int) := by simp
  have e2 : (BitVec.ofInt 64 ((2 : Int) ^ s - 1)).toNat = 2 ^ s - 1 := by
    have := ofInt_nat ((2 : Int) ^ s - 1)
    rw [ec] at this ⊢; omega
  show IntKind.i64.wrap ((BitVec.ofInt 64 t &&& BitVec.ofInt 64 ((2 : Int) ^ s - 1)).toNat : Int) = _
  rw [BitVec.toNat_and, e2, Nat.and_two_pow_sub_one_eq_mod, wrap_i64, Int.natCast_emod, ofInt_nat, ← ec]
  have hd : ((2 : Int) ^ s) ∣ 18446744073709551616 := ⟨(2 : Int) ^ (64 - s), by rw [← Int.pow_add, show s + (64 - s) = 64 by omega]; rfl⟩
  rw [Int.emod_emod_of_dvd _ hd]
  have l1 := Int.emod_nonneg t (b := (2 : Int) ^ s) (by rw [ec]; omega)
  have l2 := Int.emod_lt_of_pos t (b := (2 : Int) ^ s) (by rw [ec]; omega)
  rw [ec] at *; omega

/-- A wide number of its halves; the halves of a number (modulo 2^128, with a sign). -/
def wv (h l : Int) : Int := h * 18446744073709551616 + l
def wh (x : Int) : Int := (x / 18446744073709551616 + 9223372036854775808) % 18446744073709551616 - 9223372036854775808
def wl (x : Int) : Int := x % 18446744073709551616
theorem wh_bd (x : Int) : -9223372036854775808 ≤ wh x ∧ wh x ≤ 9223372036854775807 := by unfold wh; omega
theorem wl_bd (x : Int) : 0 ≤ wl x ∧ wl x ≤ 18446744073709551615 := by unfold wl; omega
theorem wh_wv (h l : Int) (h0 : -9223372036854775808 ≤ h) (h1 : h ≤ 9223372036854775807) (l0 : 0 ≤ l) (l1 : l ≤ 18446744073709551615) : wh (wv h l) = h ∧ wl (wv h l) = l := by unfold wh wl wv; omega
theorem wh_congr (x k : Int) : wh (x + 340282366920938463463374607431768211456 * k) = wh x ∧ wl (x + 340282366920938463463374607431768211456 * k) = wl x := by unfold wh wl; omega
theorem wv_back (x : Int) : ∃ k : Int, wv (wh x) (wl x) = x + 340282366920938463463374607431768211456 * k :=
  ⟨- ((x / 18446744073709551616 + 9223372036854775808) / 18446744073709551616), by unfold wv wh wl; omega⟩
theorem wv_bd (h l : Int) (h0 : -9223372036854775808 ≤ h) (h1 : h ≤ 9223372036854775807) (l0 : 0 ≤ l) (l1 : l ≤ 18446744073709551615) : -170141183460469231731687303715884105728 ≤ wv h l ∧ wv h l < 170141183460469231731687303715884105728 := by unfold wv; omega
theorem wv_same (x : Int) (h0 : -170141183460469231731687303715884105728 ≤ x) (h1 : x < 170141183460469231731687303715884105728) : wv (wh x) (wl x) = x := by unfold wv wh wl; omega

/-- A number's sign, in all bits. -/
def sgn (n : Int) : Int := if n < 0 then -1 else 0
theorem sgn_bd (n : Int) : -1 ≤ sgn n ∧ sgn n ≤ 0 := by unfold sgn; split <;> omega
/-- A time's window, and where a time lies in it. -/
def flD (t r : Int) : Int := if r < 1 then 0 else t / r
def flM (t r : Int) : Int := if r < 1 then 0 else t % r
theorem flD_bd (t r : Int) (h0 : -9223372036854775808 ≤ t) (h1 : t ≤ 9223372036854775807) : -9223372036854775808 ≤ flD t r ∧ flD t r ≤ 9223372036854775807 := by
  unfold flD; split
  · omega
  · have h := ediv_bd t r (by omega); omega
theorem flM_bd (t r : Int) (g1 : r ≤ 9223372036854775807) : 0 ≤ flM t r ∧ flM t r ≤ 9223372036854775807 := by
  unfold flM; split
  · omega
  · have h3 := Int.emod_nonneg t (b := r) (by omega)
    have h4 := Int.emod_lt_of_pos t (b := r) (by omega)
    omega
end Go.Proofs.Ytfnageillhpjpaa
