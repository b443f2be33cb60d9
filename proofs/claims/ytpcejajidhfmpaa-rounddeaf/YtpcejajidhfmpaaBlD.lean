/-
  The document's Prepare, Accept and Same.
-/
import Derived.Test.YtpcejajidhfmpaaBlC
namespace Go.Proofs.Ytpcejajidhfmpaa
open Go.RowKit
set_option linter.unusedVariables false

/-- The same with slices that need not be the call's own. -/
def RgI (W : World) (r : Rg) (x : Value) (e : Ending) : Prop := ∃ q n c, e = .returned (.tuple #[rV r.p r.a (.slice q n c), x]) ∧ Is W (.slice q n c) r.l ∧ r.l.length = n
theorem rgi_zero (W : World) (r : Rg) (x y : Value) (hr : r = zR) (hx : x = y) : RgI W r x (.returned (.tuple #[rV zB zB (.slice none 0 0), y])) := by
  subst hr hx
  exact ⟨none, 0, 0, rfl, Is.nil _, rfl⟩
theorem rgi_of {W : World} {p a : Bt} {l : List Int} {v : Value} (r : Rg) (x y : Value) (hr : r = ⟨p, a, l⟩) (hx : x = y) (hv : Is W v l) : RgI W r x (.returned (.tuple #[rV p a v, y])) := by
  subst hr hx
  obtain ⟨q, c, e⟩ := hv.form
  rw [e] at hv ⊢
  exact ⟨q, _, c, rfl, hv, rfl⟩
theorem as_no {b : Bt} (h : whB b = true) (k : noB b = true) : asB b = false := by unfold asB; rw [h, k]; rfl
theorem as_yes {b : Bt} (h : whB b = true) (k : noB b = false) : asB b = true := by unfold asB; rw [h, k]; rfl
theorem as_not {b : Bt} (h : whB b = false) : asB b = false := by unfold asB; rw [h]; rfl
theorem eq3 (a b : Bt) : (decide (a.n = b.n) && (decide (a.nd = b.nd) && decide (a.lf = b.lf))) = eqB a b := by
  unfold eqB
  rw [Bool.eq_iff_iff]
  simp
section
attribute [local go_sem] ok_foldB
end
end Go.Proofs.Ytpcejajidhfmpaa
