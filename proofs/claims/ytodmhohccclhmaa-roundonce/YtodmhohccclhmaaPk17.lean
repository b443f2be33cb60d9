/-
  The document's Prepare, Accept and Same.
  The document's Same.
  The answers of Prepare and Accept one by one; the chapter's example: estuarylaw09.alive.
-/
import Derived.Test.YtodmhohccclhmaaPk12
import Derived.Lib.SmallJoins
namespace Go.Proofs.Ytodmhohccclhmaa
open Go.RowKit
set_option linter.unusedVariables false
set_option maxRecDepth 100000

/-- The same with slices that need not be the call's own. -/
def RgI (W : World) (r : Rg) (x : Value) (e : Ending) : Prop := ∃ q n c, e = .returned (.tuple #[rV r.p r.a (.slice q n c), x]) ∧ Is W (.slice q n c) r.l ∧ r.l.length = n
theorem rgi_zero (W : World) (r : Rg) (x y : Value) (hr : r = zR) (hx : x = y) : RgI W r x (.returned (.tuple #[rV zB zB (.slice none 0 0), y])) := by
  subst hr hx
  exact ⟨none, 0, 0, rfl, Is.nil _, rfl⟩
theorem rgi_of {W : World} {p a : Bt} {l : List Int} {v : Value} (r : Rg) (x y : Value) (hr : r = ⟨p, a, l⟩) (hx : x = y) (hv : Is W v l) : RgI W r x (.returned (.tuple #[rV p a v, y])) := by
  subst hr hx
  obtain ⟨q, c, e⟩ := hv.form
  rw [e] at hv ⊢
  exact ⟨q, _, c, rfl, hv, rfl⟩
theorem as_no {b : Bt} (h : whB b = true) (k : noB b = true) : asB b = false := by unfold asB; rw [h, k]; rfl
theorem as_yes {b : Bt} (h : whB b = true) (k : noB b = false) : asB b = true := by unfold asB; rw [h, k]; rfl
theorem as_not {b : Bt} (h : whB b = false) : asB b = false := by unfold asB; rw [h]; rfl
theorem eq3 (a b : Bt) : (decide (a.n = b.n) && (decide (a.nd = b.nd) && decide (a.lf = b.lf))) = eqB a b := by
  unfold eqB
  rw [Bool.eq_iff_iff]
  simp
section
attribute [local go_sem] ok_foldB
end
end Go.Proofs.Ytodmhohccclhmaa
namespace Go.Proofs.Ytodmhohccclhmaa
open Go.RowKit
set_option linter.unusedVariables false

/-- The same registers. -/
def smR (r s : Rg) : Bool := eqB r.p s.p && (eqB r.a s.a && decide (r.l = s.l))
theorem smR_iff {r s : Rg} : smR r s = true ↔ r = s := by
  unfold smR
  rw [Bool.and_eq_true, Bool.and_eq_true, eqB_iff, eqB_iff, decide_eq_true_iff]
  cases r; cases s
  simp
theorem smR_self (r : Rg) : smR r r = true := smR_iff.2 rfl
theorem sm_1 {r s : Rg} (h : eqB r.p s.p = false) : smR r s = false := by unfold smR; rw [h]; rfl
theorem sm_2 {r s : Rg} (h : eqB r.a s.a = false) : smR r s = false := by unfold smR; rw [h]; simp
theorem sm_3 {r s : Rg} (h : r.l ≠ s.l) : smR r s = false := by unfold smR; rw [decide_eq_false h]; simp
section
attribute [local go_sem] ok_foldB
end
end Go.Proofs.Ytodmhohccclhmaa
namespace Go.Proofs.Ytodmhohccclhmaa
open Go.RowKit
set_option linter.unusedVariables false

theorem prepare_ok (r : Rg) (b : Bt) (v : Value) (w : World) (hv : Is w v r.l) (h : prN r b = 0) :
    Calls Try.prog 37 #[rV r.p r.a v, bV b] w fun e w' => ∃ q c, e = .returned (.tuple #[rV b r.a (.slice q r.l.length c), .nilIface]) ∧ Io w' w.heap.size (.slice q r.l.length c) r.l ∧ Below w.heap.size w w' := by
  refine (prepare_any r b v w hv).mono ?_
  rintro e w' ⟨⟨q, n, c, rfl, hO, hn⟩, hb⟩
  rw [prR_ok h] at hO hn ⊢
  rw [errV_ok h]
  dsimp only at hn
  subst hn
  exact ⟨q, c, rfl, hO, hb⟩
theorem prepare_no (r : Rg) (b : Bt) (v : Value) (w : World) (k : Nat) (hv : Is w v r.l) (h : prN r b = k) (hk : k ≠ 0) :
    Calls Try.prog 37 #[rV r.p r.a v, bV b] w fun e w' => ∃ q c, e = .returned (.tuple #[rV zB zB (.slice q 0 c), Err k]) ∧ Io w' w.heap.size (.slice q 0 c) [] ∧ Below w.heap.size w w' := by
  refine (prepare_any r b v w hv).mono ?_
  rintro e w' ⟨⟨q, n, c, rfl, hO, hn⟩, hb⟩
  rw [prR_no (by omega)] at hO hn ⊢
  rw [errV_no (by omega), h]
  have : n = 0 := hn.symm
  subst this
  exact ⟨q, c, rfl, hO, hb⟩
theorem accept_ok (r : Rg) (b : Bt) (m : List Int) (v u : Value) (w : World) (hv : Is w v r.l) (hu : Is w u m) (h : acN r b m = 0) :
    Calls Try.prog 44 #[rV r.p r.a v, bV b, u] w fun e w' => ∃ q c, e = .returned (.tuple #[rV b b (.slice q m.length c), .nilIface]) ∧ Io w' w.heap.size (.slice q m.length c) m ∧ Below w.heap.size w w' := by
  refine (accept_any r b v u m w hv hu).mono ?_
  rintro e w' ⟨⟨q, n, c, rfl, hO, hn⟩, hb⟩
  rw [acR_ok h] at hO hn ⊢
  rw [errV_ok h]
  dsimp only at hn
  subst hn
  exact ⟨q, c, rfl, hO, hb⟩
theorem accept_no (r : Rg) (b : Bt) (m : List Int) (v u : Value) (w : World) (k : Nat) (hv : Is w v r.l) (hu : Is w u m) (h : acN r b m = k) (hk : k ≠ 0) :
    Calls Try.prog 44 #[rV r.p r.a v, bV b, u] w fun e w' => ∃ q c, e = .returned (.tuple #[rV zB zB (.slice q 0 c), Err k]) ∧ Io w' w.heap.size (.slice q 0 c) [] ∧ Below w.heap.size w w' := by
  refine (accept_any r b v u m w hv hu).mono ?_
  rintro e w' ⟨⟨q, n, c, rfl, hO, hn⟩, hb⟩
  rw [acR_no (by omega)] at hO hn ⊢
  rw [errV_no (by omega), h]
  have : n = 0 := hn.symm
  subst this
  exact ⟨q, c, rfl, hO, hb⟩
theorem eqBB (w : World) : (binOp .eql 55 (Err 11) (Err 11)).run Try.prog w = .ok (.bool true) w := by kernel_rfl
theorem eqN0 (w : World) : (binOp .eql 55 .nilIface .nilIface).run Try.prog w = .ok (.bool true) w := by kernel_rfl
def b100 : Bt := ⟨1, 0, 0⟩
def b099 : Bt := ⟨0, 9, 9⟩
def b101 : Bt := ⟨1, 0, 1⟩
theorem ex_1 : prN zR b100 = 0 := by decide +kernel
theorem ex_2 : acN ⟨b100, zB, []⟩ b100 [7] = 0 := by decide +kernel
theorem ex_3 : prN ⟨b100, b100, [7]⟩ b100 = 11 := by decide +kernel
theorem ex_4 : acN ⟨b100, b100, [7]⟩ b099 [] = 11 := by decide +kernel
theorem ex_5 : prN ⟨b100, b100, [7]⟩ b101 = 0 := by decide +kernel
end Go.Proofs.Ytodmhohccclhmaa
