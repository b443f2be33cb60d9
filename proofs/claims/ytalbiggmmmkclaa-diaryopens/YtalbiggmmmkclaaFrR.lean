/-
  The document's numbers: estuaryref04.Number, Put, Take, Nums.
-/
import Derived.Test.YtalbiggmmmkclaaFrN
import Derived.Lib.Strings
namespace Go.Proofs.Ytalbiggmmmkclaa
open Go.RowKit
set_option linter.unusedVariables false

/-- Strings that differ, as the walk compares them. -/
theorem strB_ne {a b : List Nat} (h : strB a ≠ strB b) : ((strB a).toList == (strB b).toList) = false := by
  apply beq_false_of_ne
  intro e
  rw [Lib.toList_data, Lib.toList_data] at e
  exact h (ByteArray.ext (Array.toList_inj.1 e))
theorem leB_cons (j u : Nat) (hu : u < 256 ^ j) (h0 : u ≠ 0) : ∃ k, j = k + 1 ∧ leB j u = u % 256 :: leB k (u / 256) ∧ u / 256 < 256 ^ k := by
  cases j with
  | zero => exact absurd (by simpa using hu) h0
  | succ k =>
    refine ⟨k, rfl, ?_, by rw [Nat.pow_succ] at hu; omega⟩
    rw [leB, if_neg h0]
theorem leB_zero (j : Nat) : leB j 0 = [] := by cases j <;> simp [leB]
/-- How a number is written: what is done, and what is left. -/
structure Wr (u : Nat) (l : List Nat) (rem : Nat) : Prop where
  len : l.length ≤ 8
  lt : rem < 256 ^ (8 - l.length)
  all : l ++ leB (8 - l.length) rem = leB 8 u
theorem Wr.start {u : Nat} (hu : u < 18446744073709551616) : Wr u [] u := ⟨by simp, by simpa using hu, by simp⟩
theorem Wr.step {u : Nat} {l : List Nat} {rem : Nat} (h : Wr u l rem) (h0 : rem ≠ 0) : Wr u (l ++ [rem % 256]) (rem / 256) := by
  obtain ⟨k, e, e2, e3⟩ := leB_cons (8 - l.length) rem h.lt h0
  have hl : (l ++ [rem % 256]).length = l.length + 1 := by simp
  have hk : 8 - (l ++ [rem % 256]).length = k := by rw [hl]; omega
  refine ⟨by rw [hl]; omega, by rw [hk]; exact e3, ?_⟩
  rw [hk, ← h.all, e2, List.append_assoc]
  rfl
theorem Wr.end {u : Nat} {l : List Nat} (h : Wr u l 0) : l = leB 8 u := by
  have := h.all
  rwa [leB_zero, List.append_nil] at this
theorem val_drop (l : List Nat) (i x : Nat) (h : l[i]? = some x) : val (l.drop i) = x + 256 * val (l.drop (i + 1)) := by
  obtain ⟨hi, e⟩ := List.getElem?_eq_some_iff.1 h
  rw [List.drop_eq_getElem_cons hi, val, e]
theorem val_drop_lt (l : List Nat) (hb : Byt l) (h8 : l.length ≤ 8) (i : Nat) : val (l.drop i) < 18446744073709551616 := by
  have h := val_lt (l.drop i) (hb.drop i)
  have hl : (l.drop i).length ≤ 8 := by rw [List.length_drop]; omega
  have := Nat.pow_le_pow_right (n := 256) (by decide) hl
  omega
theorem unz_even (u : Nat) (h : u % 2 = 0) : unz u = ((u / 2 : Nat) : Int) := by unfold unz; rw [if_neg (by omega)]
theorem unz_odd (u : Nat) (h : u % 2 = 1) : unz u = -((u / 2 : Nat) : Int) - 1 := by unfold unz; rw [if_pos h]
end Go.Proofs.Ytalbiggmmmkclaa
