/-
  Plain mathematics of posts: messages that find room.
-/
import Derived.Test.YteililgfjnoabaaPoG
namespace Go.Proofs.Yteililgfjnoabaa
open Go.RowKit
set_option linter.unusedVariables false

theorem puts_few (ms : List (List Nat)) : ∀ S : PS, S.l.length + ms.length ≤ 4096 → puts S ms = { S with l := S.l ++ ms } := by
  induction ms with
  | nil => intro S _; simp [puts]
  | cons m r ih =>
    intro S h
    rw [List.length_cons] at h
    have h1 : put1 S m = { S with l := S.l ++ [m] } := if_pos (by omega)
    show puts (put1 S m) r = _
    rw [h1, ih _ (by simp; omega)]
    simp
theorem puts_new (ms : List (List Nat)) (h : ms.length ≤ 4096) : puts ps0 ms = ⟨ms, 0, 0⟩ := by
  rw [puts_few ms ps0 (by simpa using h)]
  simp
theorem drop_zero_erase {α : Type} (l : List α) (k : Nat) : (l.drop k).eraseIdx 0 = l.drop (k + 1) := by
  rw [List.eraseIdx_zero, List.tail_drop]
end Go.Proofs.Yteililgfjnoabaa
