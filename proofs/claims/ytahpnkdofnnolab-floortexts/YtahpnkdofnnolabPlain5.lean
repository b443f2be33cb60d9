/-
  A row of bytes divided by ten; the last digits of a number; no program in sight.
-/
import Derived.Test.YtahpnkdofnnolabPlain3
import Derived.Test.YtahpnkdofnnolabWalk8
namespace Go.Proofs.Ytahpnkdofnnolab
set_option linter.unusedVariables false

def bytesOf (M : Nat) : Nat → Int := fun i => ((M / 256 ^ i % 256 : Nat) : Int)
/-- A row while it is divided by ten: from place p on it is done. -/
def dv (M p : Nat) : Nat → Int := fun i => if p ≤ i then ((M / 256 ^ i / 10 % 256 : Nat) : Int) else ((M / 256 ^ i % 256 : Nat) : Int)
theorem Row16.congr {w : World} {g : Nat} {f f' : Nat → Int} (h : Row16 w g f) (e : ∀ i, i < 16 → f i = f' i) : Row16 w g f' :=
  ⟨h.1, fun i hi => by rw [← e i hi]; exact h.2.1 i hi, h.2.2⟩
theorem dv_start (M : Nat) : ∀ i, i < 16 → bytesOf M i = dv M 16 i := by
  intro i hi; unfold bytesOf dv; rw [if_neg (by omega)]
theorem dv_end (M : Nat) : ∀ i, i < 16 → dv M 0 i = bytesOf (M / 10) i := by
  intro i hi; unfold bytesOf dv; rw [if_pos (by omega), Nat.div_div_eq_div_mul, Nat.mul_comm, ← Nat.div_div_eq_div_mul]
theorem dv_part (M q : Nat) : M / 256 ^ q = M / 256 ^ (q + 1) * 256 + M / 256 ^ q % 256 := by
  rw [Nat.pow_succ, ← Nat.div_div_eq_div_mul]; omega
/-- What the step at place q gives: n is ten times the new byte and the rest. -/
theorem dv_step (M q : Nat) (n : Int) (hn : n = ((M / 256 ^ (q + 1) % 10 : Nat) : Int) * 256 + ((M / 256 ^ q % 256 : Nat) : Int)) :
    n / 10 = ((M / 256 ^ q / 10 % 256 : Nat) : Int) ∧ n % 10 = ((M / 256 ^ q % 10 : Nat) : Int) ∧ 0 ≤ n ∧ n ≤ 2559 ∧ (M / 256 ^ q / 10 = M / 256 ^ (q + 1) / 10 * 256 + (n / 10).toNat) := by
  have h := dv_part M q
  generalize M / 256 ^ (q + 1) = H at *
  generalize M / 256 ^ q = Q at *
  omega
theorem dv_upd (M q : Nat) : ∀ i, i < 16 → upd (dv M (q + 1)) q ((M / 256 ^ q / 10 % 256 : Nat) : Int) i = dv M q i := by
  intro i hi; unfold upd dv
  by_cases c : i = q
  · subst c; rw [if_pos rfl, if_pos (by omega)]
  · rw [if_neg c]
    by_cases d : q ≤ i
    · rw [if_pos (by omega), if_pos d]
    · rw [if_neg (by omega), if_neg d]
theorem dl_cons (N j : Nat) : dl N (j + 1) = (48 + ((N / 10 ^ j % 10 : Nat) : Int)) :: dl N j := by
  unfold dl
  rw [List.range_succ_eq_map, List.map_cons, List.map_map]
  congr 1
  apply List.map_congr_left
  intro i hi
  have hi : i < j := by simpa using hi
  simp only [Function.comp]
  rw [show j + 1 - 1 - (i + 1) = j - 1 - i by omega]
/-- Where the last round ends the text is whole. -/
theorem text_end_pos (N j : Nat) (h : N / 10 ^ (j + 1) = 0) (g : j = 0 ∨ N / 10 ^ j ≠ 0) (hj : j ≤ 38) : dl N (j + 1) = textOf (N : Int) := by
  by_cases z : N = 0
  · subst z
    rcases g with rfl | g
    · rfl
    · simp at g
  · have e := nd_eq (j + 1) 40 N h (.inr (by
      rw [Nat.add_sub_cancel]
      rcases g with rfl | g
      · simpa using z
      · exact g)) (by omega)
    rw [textOf_nz (N : Int) (by omega), if_neg (by omega), Int.natAbs_natCast, e]; rfl
theorem text_end_neg (N j : Nat) (h : N / 10 ^ (j + 1) = 0) (g : j = 0 ∨ N / 10 ^ j ≠ 0) (hj : j ≤ 38) (hN : 0 < N) : 45 :: dl N (j + 1) = textOf (- (N : Int)) := by
  have e := nd_eq (j + 1) 40 N h (.inr (by
    rw [Nat.add_sub_cancel]
    rcases g with rfl | g
    · simp; omega
    · exact g)) (by omega)
  rw [textOf_nz (- (N : Int)) (by omega), if_pos (by omega), Int.natAbs_neg, Int.natAbs_natCast, e]; rfl
end Go.Proofs.Ytahpnkdofnnolab
