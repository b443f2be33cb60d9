/-
  estuarylaw06.play: one call by both tapes.
-/
import Derived.Test.YtalbiggmmmkclaaTpU
import Derived.Deep.CutRange
import Derived.Deep.CutBlock
namespace Go.Proofs.Ytalbiggmmmkclaa
open Go.RowKit
set_option linter.unusedVariables false

theorem steps_st (S : TS) : (stS S).steps ≤ S.steps + 1 := by
  unfold stS
  split
  · omega
  · split
    · show S.steps ≤ _; omega
    · show S.steps + 1 ≤ _; omega
theorem steps_ap (S : TS) (m : List Nat) : (apS S m).steps ≤ S.steps + 1 := by
  have := steps_st S
  unfold apS
  split
  · split <;> exact this
  · omega
theorem steps_rp (S : TS) (m : List Nat) : (rpS S m).steps ≤ S.steps + 1 := by
  have := steps_st S
  unfold rpS
  split
  · split <;> exact this
  · omega
theorem steps_sy (S : TS) : (syS S).steps ≤ S.steps + 1 := by
  have := steps_st S
  unfold syS
  split <;> exact this
theorem steps_ct (S : TS) : (ctS S).steps ≤ S.steps + 1 := by
  unfold ctS
  split
  · omega
  · show S.steps ≤ _; omega
/-- Both tapes behind a call. -/
def Bo (A : World) (b r : Nat) (W wc : World) (v : Value) (S : TS) : Prop := ∃ v' S', Tp wc A.heap.size b v' S' ∧ Rf wc r S' ∧ S'.steps ≤ S.steps + 1 ∧ Mw b r W wc v v'
/-- First the tape, then the document's. -/
theorem bo_of {A W W1 W2 : World} {b r : Nat} {v v1 : Value} {S S1 : TS} (hT : Tp W A.heap.size b v S) (hR : Rf W r S) (h1 : Tp W1 A.heap.size b v1 S1) (m1 : Mv b W W1 v v1) (h2 : Rf W2 r S1) (k2 : Chg r W1 W2) (hs : S1.steps ≤ S.steps + 1) : Bo A b r W W2 v S := by
  obtain ⟨n1, n2⟩ := tp_two h1 (hR.mv hT m1)
  exact ⟨v1, S1, h1.chgO k2 (Ne.symm n1) n2, h2, hs, (m1.mw r).trans (k2.mw b v1)⟩
end Go.Proofs.Ytalbiggmmmkclaa
