/-
  Rows of bytes as numbers; no program in sight.
-/
import Derived.Test.YtnppdachbfcfkaaPlain2
namespace Go.Proofs.Ytnppdachbfcfkaa
set_option linter.unusedVariables false

/-- What the first k numbers of a row come to, the lowest first. -/
def P (f : Nat → Int) : Nat → Int
  | 0 => 0
  | k + 1 => P f k + f k * 256 ^ k
theorem P_upd (f : Nat → Int) (v : Int) (i : Nat) : ∀ k, k ≤ i → P (upd f i v) k = P f k
  | 0, _ => rfl
  | k + 1, h => by
    rw [P, P, P_upd f v i k (by omega)]
    unfold upd; rw [if_neg (by omega)]
theorem P_bytes (X : Nat) : ∀ k, P (fun i => ((X / 256 ^ i % 256 : Nat) : Int)) k = ((X % 256 ^ k : Nat) : Int)
  | 0 => by simp [P, Nat.mod_one]
  | k + 1 => by
    rw [P, P_bytes X k, Nat.mod_pow_succ, Int.natCast_add, Int.natCast_mul, Int.mul_comm]
    simp
theorem P_congr (f g : Nat → Int) : ∀ k, (∀ i, i < k → f i = g i) → P f k = P g k
  | 0, _ => rfl
  | k + 1, h => by rw [P, P, P_congr f g k (fun i hi => h i (by omega)), h k (by omega)]
theorem carry_step (n M : Int) : n % 256 * M + n / 256 * (M * 256) = n * M := by
  have h := Int.emod_add_mul_ediv n 256
  have : n * M = (n % 256 + 256 * (n / 256)) * M := by rw [h]
  rw [this, Int.add_mul, Int.mul_comm M 256, ← Int.mul_assoc, Int.mul_comm (n / 256) 256]
theorem pow_cast (k : Nat) : ((256 ^ k : Nat) : Int) = (256 : Int) ^ k := by simp
/-- A row read from its upper end, eight numbers from place b downwards. -/
def hor (f : Nat → Int) (b : Nat) : Nat → Int
  | 0 => 0
  | k + 1 => hor f b k * 256 + f (b - k)
theorem hor_P (f : Nat → Int) : hor f 15 8 * 18446744073709551616 + hor f 7 8 = P f 16 := by
  simp only [hor, P, Nat.sub_zero, Nat.reduceSub, Int.reducePow]
  omega
theorem hor_bd (f : Nat → Int) (b : Nat) (h : ∀ i, i < 16 → 0 ≤ f i ∧ f i ≤ 255) (hb : b < 16) : ∀ k, 0 ≤ hor f b k ∧ hor f b k < 256 ^ k
  | 0 => by simp [hor]
  | k + 1 => by
    have ih := hor_bd f b h hb k
    have := h (b - k) (by omega)
    rw [hor, Int.pow_succ]
    omega
theorem mod_step (X k : Nat) : ((X % 256 ^ (k + 1) : Nat) : Int) = ((X % 256 ^ k : Nat) : Int) + ((X / 256 ^ k % 256 : Nat) : Int) * (256 : Int) ^ k := by
  rw [Nat.mod_pow_succ, Int.natCast_add, Int.natCast_mul, Int.mul_comm]; simp
theorem row_step (X : Nat) (f : Nat → Int) (k : Nat) (b m s : Int) (h : P f k + m * (256 : Int) ^ k = ((X % 256 ^ k : Nat) : Int) * b + s) (hf : f k = ((X / 256 ^ k % 256 : Nat) : Int)) :
    P (upd f k ((f k * b + m) % 256)) (k + 1) + (f k * b + m) / 256 * (256 : Int) ^ (k + 1) = ((X % 256 ^ (k + 1) : Nat) : Int) * b + s := by
  have c := carry_step (f k * b + m) ((256 : Int) ^ k)
  have e : upd f k ((f k * b + m) % 256) k = (f k * b + m) % 256 := by unfold upd; rw [if_pos rfl]
  rw [P, P_upd f _ k k (Nat.le_refl _), e, Int.pow_succ, mod_step, Int.add_mul, ← hf]
  rw [Int.add_mul] at c
  have a1 : f k * b * (256 : Int) ^ k = f k * (256 : Int) ^ k * b := by rw [Int.mul_assoc, Int.mul_comm b, ← Int.mul_assoc]
  rw [a1] at c
  omega
theorem row_add (X Y : Nat) (f : Nat → Int) (k : Nat) (y c : Int) (h : P f k + c * (256 : Int) ^ k = ((X % 256 ^ k : Nat) : Int) + ((Y % 256 ^ k : Nat) : Int)) (hf : f k = ((X / 256 ^ k % 256 : Nat) : Int)) (hy : y = ((Y / 256 ^ k % 256 : Nat) : Int)) :
    P (upd f k ((f k + y + c) % 256)) (k + 1) + (f k + y + c) / 256 * (256 : Int) ^ (k + 1) = ((X % 256 ^ (k + 1) : Nat) : Int) + ((Y % 256 ^ (k + 1) : Nat) : Int) := by
  have d := carry_step (f k + y + c) ((256 : Int) ^ k)
  have e : upd f k ((f k + y + c) % 256) k = (f k + y + c) % 256 := by unfold upd; rw [if_pos rfl]
  rw [P, P_upd f _ k k (Nat.le_refl _), e, Int.pow_succ, mod_step, mod_step, ← hf, ← hy]
  rw [Int.add_mul, Int.add_mul] at d
  omega
end Go.Proofs.Ytnppdachbfcfkaa
