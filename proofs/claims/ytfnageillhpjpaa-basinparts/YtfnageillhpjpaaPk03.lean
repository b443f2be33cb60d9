/-
  The decimal text of a number, as a list of bytes; no program in sight.
  Rows of bytes as numbers; no program in sight.
-/
import Derived.Test.YtfnageillhpjpaaPk01
import Derived.Laws.BytesArg
namespace Go.Proofs.Ytfnageillhpjpaa
set_option maxRecDepth 100000
set_option linter.unusedVariables false

def upd (cs : Nat → Int) (p : Nat) (v : Int) : Nat → Int := fun i => if i = p then v else cs i

theorem ten_pow (N k : Nat) (h : N / 10 ^ k ≠ 0) (hN : N ≤ 170141183460469231731687303715884105728) : k ≤ 38 := by
  rcases Nat.lt_or_ge k 39 with c | c
  · omega
  · have : (10 : Nat) ^ 39 ≤ 10 ^ k := Nat.pow_le_pow_right (by omega) c
    have e : (10 : Nat) ^ 39 = 1000000000000000000000000000000000000000 := by decide
    exact absurd (Nat.div_eq_of_lt (by omega)) h
theorem ten_step (N k : Nat) : N / 10 ^ (k + 1) = N / 10 ^ k / 10 := by rw [Nat.pow_succ, Nat.div_div_eq_div_mul]
theorem ten_first (N k : Nat) : N / 10 ^ (k + 1) = N / 10 / 10 ^ k := by rw [Nat.pow_succ, Nat.mul_comm, Nat.div_div_eq_div_mul]

/-- The bytes of Text behind k digits: the last k of the forty are the number's last k digits. -/
def Digs (N k : Nat) (cs : Nat → Int) : Prop := ∀ j, j < k → cs (39 - j) = 48 + ((N / 10 ^ j % 10 : Nat) : Int)
theorem Digs.step {N k : Nat} {cs : Nat → Int} (h : Digs N k cs) (hk : k ≤ 38) (v : Int) (hv : v = 48 + ((N / 10 ^ k % 10 : Nat) : Int)) : Digs N (k + 1) (upd cs (39 - k) v) := by
  intro j hj
  unfold upd
  by_cases c : j = k
  · subst c; rw [if_pos rfl, hv]
  · rw [if_neg (by omega)]; exact h j (by omega)

/-- How many digits a number has (none for 0). -/
def nd : Nat → Nat → Nat
  | 0, _ => 0
  | f + 1, N => if N = 0 then 0 else nd f (N / 10) + 1
theorem nd_eq : ∀ (k f N : Nat), N / 10 ^ k = 0 → (k = 0 ∨ N / 10 ^ (k - 1) ≠ 0) → k ≤ f → nd f N = k
  | 0, f, N, h, _, _ => by
    have : N = 0 := by simpa using h
    subst this; cases f <;> simp [nd]
  | k + 1, 0, N, _, _, hf => by omega
  | k + 1, f + 1, N, h, g, hf => by
    have g' : N / 10 ^ k ≠ 0 := by simpa using g
    have hN : N ≠ 0 := by intro e; subst e; simp at g'
    rw [nd, if_neg hN, nd_eq k f (N / 10) (by rw [← ten_first]; exact h) ?_ (by omega)]
    cases k with
    | zero => exact .inl rfl
    | succ k => right; rw [ten_first] at g'; simpa using g'

/-- The text of a number, in bytes. -/
def textOf (x : Int) : List Int :=
  if x = 0 then [48] else (if x < 0 then [45] else []) ++ (List.range (nd 40 x.natAbs)).map fun i => 48 + ((x.natAbs / 10 ^ (nd 40 x.natAbs - 1 - i) % 10 : Nat) : Int)

theorem text_neg (x : Int) (k q : Nat) (cs : Nat → Int) (hx : x < 0) (h : x.natAbs / 10 ^ k = 0) (g : x.natAbs / 10 ^ (k - 1) ≠ 0) (hk : k + (q + 1) = 40) (hd : Digs x.natAbs k cs) :
    (List.range (40 - q)).map (fun i => upd cs q 45 (q + i)) = textOf x := by
  have e := nd_eq k 40 _ h (.inr g) (by omega)
  unfold textOf
  rw [if_neg (by omega), if_pos hx, e, show 40 - q = k + 1 by omega, List.range_succ_eq_map, List.map_cons, List.map_map]
  simp only [List.cons_append, List.nil_append]
  congr 1
  · simp [upd]
  · apply List.map_congr_left
    intro i hi
    have hi : i < k := by simpa using hi
    simp only [Function.comp, upd]
    rw [if_neg (by omega), show q + (i + 1) = 39 - (k - 1 - i) by omega, hd _ (by omega)]
theorem text_pos (x : Int) (k p : Nat) (cs : Nat → Int) (hx : 0 < x) (h : x.natAbs / 10 ^ k = 0) (g : x.natAbs / 10 ^ (k - 1) ≠ 0) (hk : k + p = 40) (hd : Digs x.natAbs k cs) :
    (List.range (40 - p)).map (fun i => cs (p + i)) = textOf x := by
  have e := nd_eq k 40 _ h (.inr g) (by omega)
  unfold textOf
  rw [if_neg (by omega), if_neg (by omega), e, show 40 - p = k by omega]
  simp only [List.nil_append]
  apply List.map_congr_left
  intro i hi
  have hi : i < k := by simpa using hi
  rw [show p + i = 39 - (k - 1 - i) by omega, hd _ (by omega)]
end Go.Proofs.Ytfnageillhpjpaa
namespace Go.Proofs.Ytfnageillhpjpaa
set_option maxRecDepth 100000
set_option linter.unusedVariables false

/-- What the first k numbers of a row come to, the lowest first. -/
def P (f : Nat → Int) : Nat → Int
  | 0 => 0
  | k + 1 => P f k + f k * 256 ^ k
theorem P_upd (f : Nat → Int) (v : Int) (i : Nat) : ∀ k, k ≤ i → P (upd f i v) k = P f k
  | 0, _ => rfl
  | k + 1, h => by
    rw [P, P, P_upd f v i k (by omega)]
    unfold upd; rw [if_neg (by omega)]
theorem P_bytes (X : Nat) : ∀ k, P (fun i => ((X / 256 ^ i % 256 : Nat) : Int)) k = ((X % 256 ^ k : Nat) : Int)
  | 0 => by simp [P, Nat.mod_one]
  | k + 1 => by
    rw [P, P_bytes X k, Nat.mod_pow_succ, Int.natCast_add, Int.natCast_mul, Int.mul_comm]
    simp
theorem P_congr (f g : Nat → Int) : ∀ k, (∀ i, i < k → f i = g i) → P f k = P g k
  | 0, _ => rfl
  | k + 1, h => by rw [P, P, P_congr f g k (fun i hi => h i (by omega)), h k (by omega)]
theorem carry_step (n M : Int) : n % 256 * M + n / 256 * (M * 256) = n * M := by
  have h := Int.emod_add_mul_ediv n 256
  have : n * M = (n % 256 + 256 * (n / 256)) * M := by rw [h]
  rw [this, Int.add_mul, Int.mul_comm M 256, ← Int.mul_assoc, Int.mul_comm (n / 256) 256]
theorem pow_cast (k : Nat) : ((256 ^ k : Nat) : Int) = (256 : Int) ^ k := by simp
/-- A row read from its upper end, eight numbers from place b downwards. -/
def hor (f : Nat → Int) (b : Nat) : Nat → Int
  | 0 => 0
  | k + 1 => hor f b k * 256 + f (b - k)
theorem hor_P (f : Nat → Int) : hor f 15 8 * 18446744073709551616 + hor f 7 8 = P f 16 := by
  simp only [hor, P, Nat.sub_zero, Nat.reduceSub, Int.reducePow]
  omega
theorem hor_bd (f : Nat → Int) (b : Nat) (h : ∀ i, i < 16 → 0 ≤ f i ∧ f i ≤ 255) (hb : b < 16) : ∀ k, 0 ≤ hor f b k ∧ hor f b k < 256 ^ k
  | 0 => by simp [hor]
  | k + 1 => by
    have ih := hor_bd f b h hb k
    have := h (b - k) (by omega)
    rw [hor, Int.pow_succ]
    omega
theorem mod_step (X k : Nat) : ((X % 256 ^ (k + 1) : Nat) : Int) = ((X % 256 ^ k : Nat) : Int) + ((X / 256 ^ k % 256 : Nat) : Int) * (256 : Int) ^ k := by
  rw [Nat.mod_pow_succ, Int.natCast_add, Int.natCast_mul, Int.mul_comm]; simp
theorem row_step (X : Nat) (f : Nat → Int) (k : Nat) (b m s : Int) (h : P f k + m * (256 : Int) ^ k = ((X % 256 ^ k : Nat) : Int) * b + s) (hf : f k = ((X / 256 ^ k % 256 : Nat) : Int)) :
    P (upd f k ((f k * b + m) % 256)) (k + 1) + (f k * b + m) / 256 * (256 : Int) ^ (k + 1) = ((X % 256 ^ (k + 1) : Nat) : Int) * b + s := by
  have c := carry_step (f k * b + m) ((256 : Int) ^ k)
  have e : upd f k ((f k * b + m) % 256) k = (f k * b + m) % 256 := by unfold upd; rw [if_pos rfl]
  rw [P, P_upd f _ k k (Nat.le_refl _), e, Int.pow_succ, mod_step, Int.add_mul, ← hf]
  rw [Int.add_mul] at c
  have a1 : f k * b * (256 : Int) ^ k = f k * (256 : Int) ^ k * b := by rw [Int.mul_assoc, Int.mul_comm b, ← Int.mul_assoc]
  rw [a1] at c
  omega
theorem row_add (X Y : Nat) (f : Nat → Int) (k : Nat) (y c : Int) (h : P f k + c * (256 : Int) ^ k = ((X % 256 ^ k : Nat) : Int) + ((Y % 256 ^ k : Nat) : Int)) (hf : f k = ((X / 256 ^ k % 256 : Nat) : Int)) (hy : y = ((Y / 256 ^ k % 256 : Nat) : Int)) :
    P (upd f k ((f k + y + c) % 256)) (k + 1) + (f k + y + c) / 256 * (256 : Int) ^ (k + 1) = ((X % 256 ^ (k + 1) : Nat) : Int) + ((Y % 256 ^ (k + 1) : Nat) : Int) := by
  have d := carry_step (f k + y + c) ((256 : Int) ^ k)
  have e : upd f k ((f k + y + c) % 256) k = (f k + y + c) % 256 := by unfold upd; rw [if_pos rfl]
  rw [P, P_upd f _ k k (Nat.le_refl _), e, Int.pow_succ, mod_step, mod_step, ← hf, ← hy]
  rw [Int.add_mul, Int.add_mul] at d
  omega
end Go.Proofs.Ytfnageillhpjpaa
