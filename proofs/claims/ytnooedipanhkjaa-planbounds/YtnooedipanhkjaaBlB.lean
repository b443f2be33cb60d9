/-
  ballot.clone, ballotOf; the document's Good.
-/
import Derived.Test.YtnooedipanhkjaaBlA
namespace Go.Proofs.Ytnooedipanhkjaa
set_option maxRecDepth 100000
open Go.RowKit
set_option linter.unusedVariables false

theorem own_nil (W : World) (base : Nat) : W.ownsRow base 3 1 (.slice none 0 0) 0 (ints []) := ⟨rfl, .inl ⟨rfl, rfl⟩⟩
theorem gd_0 {p a : Bt} {n : Nat} (h : ¬ n ≤ 32) : gdN p a n = false := by
  unfold gdN
  rw [show decide (n = 0) = false from decide_eq_false (by omega), show decide (n ≤ 32) = false from decide_eq_false h]
  simp
theorem ne3 (a : Bt) : (!(decide (a.n = 0) && (decide (a.nd = 0) && decide (a.lf = 0)))) = !noB a := by rw [and3]
theorem gd_6 {p a : Bt} {n : Nat} (h1 : whB p = true) (h2 : whB a = true) (h3 : lt3 p a = false) (h4 : n ≤ 32) (h5 : noB a = false) : gdN p a n = true := by unfold gdN; rw [h1, h2, h3, h5]; simpa using h4
section
attribute [local go_sem] ok_foldB
end
end Go.Proofs.Ytnooedipanhkjaa
