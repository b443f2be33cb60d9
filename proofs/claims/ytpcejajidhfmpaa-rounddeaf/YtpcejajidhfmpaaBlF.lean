/-
  The answers of Prepare and Accept one by one; the chapter's example: estuarylaw09.alive.
-/
import Derived.Test.YtpcejajidhfmpaaBlE
import Derived.Lib.SmallJoins
namespace Go.Proofs.Ytpcejajidhfmpaa
open Go.RowKit
set_option linter.unusedVariables false

theorem prepare_ok (r : Rg) (b : Bt) (v : Value) (w : World) (hv : Is w v r.l) (h : prN r b = 0) :
    Calls Try.prog 37 #[rV r.p r.a v, bV b] w fun e w' => ∃ q c, e = .returned (.tuple #[rV b r.a (.slice q r.l.length c), .nilIface]) ∧ Io w' w.heap.size (.slice q r.l.length c) r.l ∧ Below w.heap.size w w' := by
  refine (prepare_any r b v w hv).mono ?_
  rintro e w' ⟨⟨q, n, c, rfl, hO, hn⟩, hb⟩
  rw [prR_ok h] at hO hn ⊢
  rw [errV_ok h]
  dsimp only at hn
  subst hn
  exact ⟨q, c, rfl, hO, hb⟩
theorem prepare_no (r : Rg) (b : Bt) (v : Value) (w : World) (k : Nat) (hv : Is w v r.l) (h : prN r b = k) (hk : k ≠ 0) :
    Calls Try.prog 37 #[rV r.p r.a v, bV b] w fun e w' => ∃ q c, e = .returned (.tuple #[rV zB zB (.slice q 0 c), Err k]) ∧ Io w' w.heap.size (.slice q 0 c) [] ∧ Below w.heap.size w w' := by
  refine (prepare_any r b v w hv).mono ?_
  rintro e w' ⟨⟨q, n, c, rfl, hO, hn⟩, hb⟩
  rw [prR_no (by omega)] at hO hn ⊢
  rw [errV_no (by omega), h]
  have : n = 0 := hn.symm
  subst this
  exact ⟨q, c, rfl, hO, hb⟩
theorem accept_ok (r : Rg) (b : Bt) (m : List Int) (v u : Value) (w : World) (hv : Is w v r.l) (hu : Is w u m) (h : acN r b m = 0) :
    Calls Try.prog 44 #[rV r.p r.a v, bV b, u] w fun e w' => ∃ q c, e = .returned (.tuple #[rV b b (.slice q m.length c), .nilIface]) ∧ Io w' w.heap.size (.slice q m.length c) m ∧ Below w.heap.size w w' := by
  refine (accept_any r b v u m w hv hu).mono ?_
  rintro e w' ⟨⟨q, n, c, rfl, hO, hn⟩, hb⟩
  rw [acR_ok h] at hO hn ⊢
  rw [errV_ok h]
  dsimp only at hn
  subst hn
  exact ⟨q, c, rfl, hO, hb⟩
theorem accept_no (r : Rg) (b : Bt) (m : List Int) (v u : Value) (w : World) (k : Nat) (hv : Is w v r.l) (hu : Is w u m) (h : acN r b m = k) (hk : k ≠ 0) :
    Calls Try.prog 44 #[rV r.p r.a v, bV b, u] w fun e w' => ∃ q c, e = .returned (.tuple #[rV zB zB (.slice q 0 c), Err k]) ∧ Io w' w.heap.size (.slice q 0 c) [] ∧ Below w.heap.size w w' := by
  refine (accept_any r b v u m w hv hu).mono ?_
  rintro e w' ⟨⟨q, n, c, rfl, hO, hn⟩, hb⟩
  rw [acR_no (by omega)] at hO hn ⊢
  rw [errV_no (by omega), h]
  have : n = 0 := hn.symm
  subst this
  exact ⟨q, c, rfl, hO, hb⟩
theorem eqBB (w : World) : (binOp .eql 55 (Err 11) (Err 11)).run Try.prog w = .ok (.bool true) w := by kernel_rfl
theorem eqN0 (w : World) : (binOp .eql 55 .nilIface .nilIface).run Try.prog w = .ok (.bool true) w := by kernel_rfl
def b100 : Bt := ⟨1, 0, 0⟩
def b099 : Bt := ⟨0, 9, 9⟩
def b101 : Bt := ⟨1, 0, 1⟩
theorem ex_1 : prN zR b100 = 0 := by decide +kernel
theorem ex_2 : acN ⟨b100, zB, []⟩ b100 [7] = 0 := by decide +kernel
theorem ex_3 : prN ⟨b100, b100, [7]⟩ b100 = 11 := by decide +kernel
theorem ex_4 : acN ⟨b100, b100, [7]⟩ b099 [] = 11 := by decide +kernel
theorem ex_5 : prN ⟨b100, b100, [7]⟩ b101 = 0 := by decide +kernel
end Go.Proofs.Ytpcejajidhfmpaa
