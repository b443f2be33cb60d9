/-
  The decimal text of a number, as a list of bytes; no program in sight.
-/
import Derived.Test.YtnppdachbfcfkaaPlain1
import Derived.Laws.BytesArg
namespace Go.Proofs.Ytnppdachbfcfkaa
set_option linter.unusedVariables false

def upd (cs : Nat → Int) (p : Nat) (v : Int) : Nat → Int := fun i => if i = p then v else cs i

theorem ten_pow (N k : Nat) (h : N / 10 ^ k ≠ 0) (hN : N ≤ 170141183460469231731687303715884105728) : k ≤ 38 := by
  rcases Nat.lt_or_ge k 39 with c | c
  · omega
  · have : (10 : Nat) ^ 39 ≤ 10 ^ k := Nat.pow_le_pow_right (by omega) c
    have e : (10 : Nat) ^ 39 = 1000000000000000000000000000000000000000 := by decide
    exact absurd (Nat.div_eq_of_lt (by omega)) h
theorem ten_step (N k : Nat) : N / 10 ^ (k + 1) = N / 10 ^ k / 10 := by rw [Nat.pow_succ, Nat.div_div_eq_div_mul]
theorem ten_first (N k : Nat) : N / 10 ^ (k + 1) = N / 10 / 10 ^ k := by rw [Nat.pow_succ, Nat.mul_comm, Nat.div_div_eq_div_mul]

/-- The bytes of Text behind k digits: the last k of the forty are the number's last k digits. -/
def Digs (N k : Nat) (cs : Nat → Int) : Prop := ∀ j, j < k → cs (39 - j) = 48 + ((N / 10 ^ j % 10 : Nat) : Int)
theorem Digs.step {N k : Nat} {cs : Nat → Int} (h : Digs N k cs) (hk : k ≤ 38) (v : Int) (hv : v = 48 + ((N / 10 ^ k % 10 : Nat) : Int)) : Digs N (k + 1) (upd cs (39 - k) v) := by
  intro j hj
  unfold upd
  by_cases c : j = k
  · subst c; rw [if_pos rfl, hv]
  · rw [if_neg (by omega)]; exact h j (by omega)

/-- How many digits a number has (none for 0). -/
def nd : Nat → Nat → Nat
  | 0, _ => 0
  | f + 1, N => if N = 0 then 0 else nd f (N / 10) + 1
theorem nd_eq : ∀ (k f N : Nat), N / 10 ^ k = 0 → (k = 0 ∨ N / 10 ^ (k - 1) ≠ 0) → k ≤ f → nd f N = k
  | 0, f, N, h, _, _ => by
    have : N = 0 := by simpa using h
    subst this; cases f <;> simp [nd]
  | k + 1, 0, N, _, _, hf => by omega
  | k + 1, f + 1, N, h, g, hf => by
    have g' : N / 10 ^ k ≠ 0 := by simpa using g
    have hN : N ≠ 0 := by intro e; subst e; simp at g'
    rw [nd, if_neg hN, nd_eq k f (N / 10) (by rw [← ten_first]; exact h) ?_ (by omega)]
    cases k with
    | zero => exact .inl rfl
    | succ k => right; rw [ten_first] at g'; simpa using g'

/-- The text of a number, in bytes. -/
def textOf (x : Int) : List Int :=
  if x = 0 then [48] else (if x < 0 then [45] else []) ++ (List.range (nd 40 x.natAbs)).map fun i => 48 + ((x.natAbs / 10 ^ (nd 40 x.natAbs - 1 - i) % 10 : Nat) : Int)

theorem text_neg (x : Int) (k q : Nat) (cs : Nat → Int) (hx : x < 0) (h : x.natAbs / 10 ^ k = 0) (g : x.natAbs / 10 ^ (k - 1) ≠ 0) (hk : k + (q + 1) = 40) (hd : Digs x.natAbs k cs) :
    (List.range (40 - q)).map (fun i => upd cs q 45 (q + i)) = textOf x := by
  have e := nd_eq k 40 _ h (.inr g) (by omega)
  unfold textOf
  rw [if_neg (by omega), if_pos hx, e, show 40 - q = k + 1 by omega, List.range_succ_eq_map, List.map_cons, List.map_map]
  simp only [List.cons_append, List.nil_append]
  congr 1
  · simp [upd]
  · apply List.map_congr_left
    intro i hi
    have hi : i < k := by simpa using hi
    simp only [Function.comp, upd]
    rw [if_neg (by omega), show q + (i + 1) = 39 - (k - 1 - i) by omega, hd _ (by omega)]
theorem text_pos (x : Int) (k p : Nat) (cs : Nat → Int) (hx : 0 < x) (h : x.natAbs / 10 ^ k = 0) (g : x.natAbs / 10 ^ (k - 1) ≠ 0) (hk : k + p = 40) (hd : Digs x.natAbs k cs) :
    (List.range (40 - p)).map (fun i => cs (p + i)) = textOf x := by
  have e := nd_eq k 40 _ h (.inr g) (by omega)
  unfold textOf
  rw [if_neg (by omega), if_neg (by omega), e, show 40 - p = k by omega]
  simp only [List.nil_append]
  apply List.map_congr_left
  intro i hi
  have hi : i < k := by simpa using hi
  rw [show p + i = 39 - (k - 1 - i) by omega, hd _ (by omega)]
end Go.Proofs.Ytnppdachbfcfkaa
