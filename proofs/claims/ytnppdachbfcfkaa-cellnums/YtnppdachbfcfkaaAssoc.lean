/-
  Joining cells is associative and commutative; the cells of samples in whatever order and groups. Plain mathematics.
-/
import Derived.Test.YtnppdachbfcfkaaOnes
namespace Go.Proofs.Ytnppdachbfcfkaa
open Go.RowKit
set_option linter.unusedVariables false

/-- The same cell. -/
def Eqv (a b : Nat → Int) : Prop := ∀ i, i < 74 → a i = b i
theorem Eqv.refl (a : Nat → Int) : Eqv a a := fun _ _ => rfl
theorem Eqv.symm {a b : Nat → Int} (h : Eqv a b) : Eqv b a := fun i hi => (h i hi).symm
theorem Eqv.trans {a b c : Nat → Int} (h : Eqv a b) (k : Eqv b c) : Eqv a c := fun i hi => (h i hi).trans (k i hi)
theorem both_congr {a b c d : Nat → Int} (h : Eqv a c) (k : Eqv b d) : Eqv (bothF a b) (bothF c d) := by
  intro i hi
  unfold bothF headF
  rw [h 0 (by omega), h 1 (by omega), h 2 (by omega), h 3 (by omega), h 4 (by omega), h 5 (by omega), h 6 (by omega), h 7 (by omega), h 8 (by omega), h i hi,
    k 0 (by omega), k 1 (by omega), k 2 (by omega), k 3 (by omega), k 4 (by omega), k 5 (by omega), k 6 (by omega), k 7 (by omega), k 8 (by omega), k i hi]

theorem ltr_irr (a0 a1 a2 a3 : Int) : ltr a0 a1 a2 a3 a0 a1 a2 a3 = false := by unfold ltr; simp
theorem ltr_yes {a0 a1 a2 a3 b0 b1 b2 b3 c0 c1 c2 c3 : Int} (h : ltr a0 a1 a2 a3 b0 b1 b2 b3 = true) (k : ltr b0 b1 b2 b3 c0 c1 c2 c3 = true) : ltr a0 a1 a2 a3 c0 c1 c2 c3 = true := by
  unfold ltr at *; simp only [decide_eq_true_eq] at *; omega
theorem ltr_no {a0 a1 a2 a3 b0 b1 b2 b3 c0 c1 c2 c3 : Int} (h : ltr a0 a1 a2 a3 b0 b1 b2 b3 = false) (k : ltr b0 b1 b2 b3 c0 c1 c2 c3 = false) : ltr a0 a1 a2 a3 c0 c1 c2 c3 = false := by
  unfold ltr at *; simp only [decide_eq_false_iff_not] at *; omega
theorem both_at0 (a b : Nat → Int) : bothF a b 0 = wrap64 (a 0 + b 0) := rfl
theorem both_at1 (a b : Nat → Int) : bothF a b 1 = wh (wv (a 1) (a 2) + wv (b 1) (b 2)) := rfl
theorem both_at2 (a b : Nat → Int) : bothF a b 2 = wl (wv (a 1) (a 2) + wv (b 1) (b 2)) := rfl
theorem both_at3 (a b : Nat → Int) : bothF a b 3 = min (a 3) (b 3) := rfl
theorem both_at4 (a b : Nat → Int) : bothF a b 4 = max (a 4) (b 4) := rfl
theorem both_last (a b : Nat → Int) (i : Nat) (h5 : 5 ≤ i) (h9 : i < 9) : bothF a b i = if ltr (b 5) (b 6) (b 7) (b 8) (a 5) (a 6) (a 7) (a 8) then b i else a i := by
  unfold bothF headF
  rw [if_pos h9, if_neg (by omega), if_neg (by omega), if_neg (by omega), if_neg (by omega), if_neg (by omega), if_pos h9]
theorem both_hist (a b : Nat → Int) (i : Nat) (h9 : 9 ≤ i) : bothF a b i = wrap64 (a i + b i) := by
  unfold bothF; rw [if_neg (by omega)]

theorem wide_congr {x y : Int} (h : x % 340282366920938463463374607431768211456 = y % 340282366920938463463374607431768211456) : wh x = wh y ∧ wl x = wl y := by
  constructor
  · unfold wh; omega
  · unfold wl; omega
theorem wide_back (x : Int) : wv (wh x) (wl x) % 340282366920938463463374607431768211456 = x % 340282366920938463463374607431768211456 := by
  unfold wv wh wl; omega

theorem both_comm (a b : Nat → Int) : Eqv (bothF a b) (bothF b a) := by
  intro i hi
  match i, hi with
  | 0, _ => rw [both_at0, both_at0, Int.add_comm]
  | 1, _ => rw [both_at1, both_at1, Int.add_comm]
  | 2, _ => rw [both_at2, both_at2, Int.add_comm]
  | 3, _ => rw [both_at3, both_at3, Int.min_comm]
  | 4, _ => rw [both_at4, both_at4, Int.max_comm]
  | n + 9, _ => rw [both_hist _ _ _ (by omega), both_hist _ _ _ (by omega), Int.add_comm]
  | 5, _ | 6, _ | 7, _ | 8, _ =>
    rw [both_last _ _ _ (by omega) (by omega), both_last _ _ _ (by omega) (by omega)]
    unfold ltr
    simp only [decide_eq_true_eq]
    split <;> split <;> omega

theorem both_assoc (a b c : Nat → Int) : Eqv (bothF (bothF a b) c) (bothF a (bothF b c)) := by
  intro i hi
  match i, hi with
  | 0, _ => rw [both_at0, both_at0, both_at0, both_at0]; unfold wrap64; omega
  | 1, _ =>
    rw [both_at1 (bothF a b) c, both_at1 a (bothF b c), both_at1 b c, both_at2 b c, both_at1 a b, both_at2 a b]
    have h1 := wide_back (wv (a 1) (a 2) + wv (b 1) (b 2))
    have h2 := wide_back (wv (b 1) (b 2) + wv (c 1) (c 2))
    exact (wide_congr (by omega)).1
  | 2, _ =>
    rw [both_at2 (bothF a b) c, both_at2 a (bothF b c), both_at1 b c, both_at2 b c, both_at1 a b, both_at2 a b]
    have h1 := wide_back (wv (a 1) (a 2) + wv (b 1) (b 2))
    have h2 := wide_back (wv (b 1) (b 2) + wv (c 1) (c 2))
    exact (wide_congr (by omega)).2
  | 3, _ => rw [both_at3, both_at3, both_at3, both_at3]; omega
  | 4, _ => rw [both_at4, both_at4, both_at4, both_at4]; omega
  | n + 9, _ => rw [both_hist _ _ _ (by omega), both_hist _ _ _ (by omega), both_hist _ _ _ (by omega), both_hist _ _ _ (by omega)]; unfold wrap64; omega
  | 5, _ | 6, _ | 7, _ | 8, _ =>
    rw [both_last (bothF a b) c _ (by omega) (by omega), both_last a (bothF b c) _ (by omega) (by omega),
      both_last a b 5 (by omega) (by omega), both_last a b 6 (by omega) (by omega), both_last a b 7 (by omega) (by omega), both_last a b 8 (by omega) (by omega),
      both_last b c 5 (by omega) (by omega), both_last b c 6 (by omega) (by omega), both_last b c 7 (by omega) (by omega), both_last b c 8 (by omega) (by omega)]
    cases h1 : ltr (b 5) (b 6) (b 7) (b 8) (a 5) (a 6) (a 7) (a 8) <;> cases h2 : ltr (c 5) (c 6) (c 7) (c 8) (b 5) (b 6) (b 7) (b 8)
    · simp [h1, ltr_no h2 h1]
    · simp
    · simp [h1, h2]
    · simp [h2, ltr_yes h2 h1]
end Go.Proofs.Ytnppdachbfcfkaa
