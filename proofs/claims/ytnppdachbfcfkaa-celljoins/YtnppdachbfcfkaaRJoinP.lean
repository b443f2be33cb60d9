/-
  What the document's way of joining keeps. Plain mathematics.
-/
import Derived.Test.YtnppdachbfcfkaaAssoc
import Derived.Test.YtnppdachbfcfkaaSteps
namespace Go.Proofs.Ytnppdachbfcfkaa
open Go.RowKit
set_option linter.unusedVariables false

theorem cup_id (x : Nat → Int) (p : Nat) : ∀ i, i < 74 → cup x p (x p) i = x i := by intro i _; unfold cup; split <;> simp_all
def allZ (l : List (Nat → Int)) : Bool := l.all fun c => eqC c zc
theorem allZ_snoc (l : List (Nat → Int)) (c : Nat → Int) : allZ (l ++ [c]) = (allZ l && eqC c zc) := by simp [allZ]
theorem fold_not_none : ∀ (l : List (Nat → Int)) (x : Nat → Int), ∃ y, l.foldl stepJ (some x) = some y
  | [], x => ⟨x, rfl⟩
  | c :: l, x => by
    simp only [List.foldl_cons]
    cases h : eqC c zc with
    | true => rw [stepJ_unit h]; exact fold_not_none l x
    | false => rw [stepJ_some h]; exact fold_not_none l _
theorem joinO_allZ : ∀ l : List (Nat → Int), (joinO l = none ∧ allZ l = true) ∨ ((∃ x, joinO l = some x) ∧ allZ l = false)
  | [] => .inl ⟨rfl, rfl⟩
  | c :: l => by
    cases h : eqC c zc with
    | true =>
      have e : joinO (c :: l) = joinO l := by unfold joinO; rw [List.foldl_cons, stepJ_unit h]
      have e2 : allZ (c :: l) = allZ l := by simp [allZ, h]
      rw [e, e2]; exact joinO_allZ l
    | false =>
      refine .inr ⟨?_, by simp [allZ, h]⟩
      unfold joinO
      rw [List.foldl_cons, stepJ_none h]
      exact fold_not_none l c
/-- The first j places of the Hist added. -/
def addH (f c : Nat → Int) (j : Nat) : Nat → Int := fun i => if 9 ≤ i ∧ i < 9 + j then wrap64 (f i + c i) else f i
theorem addH_zero (f c : Nat → Int) : addH f c 0 = f := by funext i; unfold addH; rw [if_neg (by omega)]
theorem addH_succ (f c : Nat → Int) (j : Nat) : addH f c (j + 1) = cup (addH f c j) (9 + j) (wrap64 (f (9 + j) + c (9 + j))) := by
  funext i
  unfold addH cup
  by_cases h : i = 9 + j
  · subst h; rw [if_pos (by omega), if_pos rfl]
  · rw [if_neg h]
    show _ = if 9 ≤ i ∧ i < 9 + j then wrap64 (f i + c i) else f i
    by_cases k : 9 ≤ i ∧ i < 9 + j
    · rw [if_pos (by omega), if_pos k]
    · rw [if_neg (by omega), if_neg k]
theorem addH_at (f c : Nat → Int) (j : Nat) : addH f c j (9 + j) = f (9 + j) := by unfold addH; rw [if_neg (by omega)]
theorem addH_both (a b : Nat → Int) : ∀ i, i < 74 → addH (headF a b) b 65 i = bothF a b i := by
  intro i hi
  unfold addH bothF
  by_cases h : i < 9
  · rw [if_neg (by omega), if_pos h]
  · rw [if_pos (by omega), if_neg h]
    have : headF a b i = a i := by unfold headF; rw [if_neg (by omega), if_neg (by omega), if_neg (by omega), if_neg (by omega), if_neg (by omega), if_neg h]
    rw [this]
end Go.Proofs.Ytnppdachbfcfkaa
