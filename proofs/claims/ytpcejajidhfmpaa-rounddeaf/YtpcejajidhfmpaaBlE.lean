/-
  The document's Same.
-/
import Derived.Test.YtpcejajidhfmpaaBlD
namespace Go.Proofs.Ytpcejajidhfmpaa
open Go.RowKit
set_option linter.unusedVariables false

/-- The same registers. -/
def smR (r s : Rg) : Bool := eqB r.p s.p && (eqB r.a s.a && decide (r.l = s.l))
theorem smR_iff {r s : Rg} : smR r s = true ↔ r = s := by
  unfold smR
  rw [Bool.and_eq_true, Bool.and_eq_true, eqB_iff, eqB_iff, decide_eq_true_iff]
  cases r; cases s
  simp
theorem smR_self (r : Rg) : smR r r = true := smR_iff.2 rfl
theorem sm_1 {r s : Rg} (h : eqB r.p s.p = false) : smR r s = false := by unfold smR; rw [h]; rfl
theorem sm_2 {r s : Rg} (h : eqB r.a s.a = false) : smR r s = false := by unfold smR; rw [h]; simp
theorem sm_3 {r s : Rg} (h : r.l ≠ s.l) : smR r s = false := by unfold smR; rw [decide_eq_false h]; simp
section
attribute [local go_sem] ok_foldB
end
end Go.Proofs.Ytpcejajidhfmpaa
