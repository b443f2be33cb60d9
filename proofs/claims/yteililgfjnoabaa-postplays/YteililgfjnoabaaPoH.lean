/-
  Plain mathematics of posts: messages that find room.
-/
import Derived.Test.YteililgfjnoabaaPoG
namespace Go.Proofs.Yteililgfjnoabaa
open Go.RowKit
set_option linter.unusedVariables false

theorem puts_few (ms : List (List Nat)) : ∀ S : PS, S.l.length + ms.length ≤ 4096 → puts S ms = { S with l := S.l ++ ms } := by
  induction ms with
  | nil => intro S _; simp [puts]
  | cons m r ih =>
    intro S h
    rw [List.length_cons] at h
    have h1 : put1 S m = { S with l := S.l ++ [m] } := if_pos (by omega)
    show puts (put1 S m) r = _
    rw [h1, ih _ (by simp; omega)]
    simp
theorem puts_new (ms : List (List Nat)) (h : ms.length ≤ 4096) : puts ps0 ms = ⟨ms, 0, 0⟩ := by
  rw [puts_few ms ps0 (by simpa using h)]
  simp
/-- 'int(uint(x) % n)' -/
theorem mod_nat (x : Int) (n : Int) (h0 : 0 < n) (h1 : n ≤ 4096) : ∃ k : Nat, (k : Int) < n ∧ wrap64 ((IntKind.u64.wrap x).tmod n) = (k : Int) := by
  have hx : 0 ≤ IntKind.u64.wrap x := by rw [IntKind.wrap_u64]; omega
  have he : (IntKind.u64.wrap x).tmod n = IntKind.u64.wrap x % n := Int.tmod_eq_emod_of_nonneg hx
  have h2 := Int.emod_nonneg (IntKind.u64.wrap x) (show n ≠ 0 by omega)
  have h3 := Int.emod_lt_of_pos (IntKind.u64.wrap x) h0
  refine ⟨(IntKind.u64.wrap x % n).toNat, by omega, ?_⟩
  rw [he, Int.toNat_of_nonneg h2]
  generalize IntKind.u64.wrap x % n = r at *
  unfold wrap64
  omega
theorem drop_zero_erase {α : Type} (l : List α) (k : Nat) : (l.drop k).eraseIdx 0 = l.drop (k + 1) := by
  rw [List.eraseIdx_zero, List.tail_drop]
end Go.Proofs.Yteililgfjnoabaa
