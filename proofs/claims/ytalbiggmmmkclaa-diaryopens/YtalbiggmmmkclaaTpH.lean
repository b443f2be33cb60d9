/-
  Strings of bytes: lengths, sums, parts.
-/
import Derived.Test.YtalbiggmmmkclaaTpG
import Derived.Laws.Concat
namespace Go.Proofs.Ytalbiggmmmkclaa
open Go.RowKit
set_option linter.unusedVariables false

theorem strB_len (l : List Nat) : (strB l).size = l.length := by
  simp [strB, strOfNums, ByteArray.size]
theorem add_strs (a b : ByteArray) (h : a.size + b.size ≤ 9223372036854775807) (w : World) : (binOp .add 9 (.string a) (.string b)).run Try.prog w = .ok (.string (a ++ b)) w := by
  have := run_string_add_sum (P := Try.prog) (w := w) a b h
  simp [binOp, this]
theorem add_strB (l m : List Nat) (h : l.length + m.length ≤ 9223372036854775807) (w : World) : (binOp .add 9 (.string (strB l)) (.string (strB m))).run Try.prog w = .ok (.string (strB (l ++ m))) w := by
  rw [add_strs _ _ (by rw [strB_len, strB_len]; exact h), strB_app]
theorem strB_take (l : List Nat) (j : Nat) : (strB l).extract 0 j = strB (l.take j) := by
  apply ByteArray.ext
  simp [strB, strOfNums, List.map_take]
/-- 's[:j]' of a string of bytes, its run. -/
theorem ss_run {o : Oper} {w : World} {ρ : Operand → Value} {x y : Operand} (ho : o.op = .slice 9 x none (some y) none) {l : List Nat} {j : Nat} {J : Int} {k : IntKind}
    (hx : ρ x = .string (strB l)) (hy : ρ y = .int k J) (hJ : J = (j : Int)) (hj : j ≤ l.length) : (execOp ρ o).run Try.prog w = .ok (.value (.string (strB (l.take j)))) w := by
  subst hJ
  have h2 : (j : Int) ≤ ((strB l).size : Int) := by rw [strB_len]; omega
  unfold execOp
  simp only [ho, hx, hy, Option.map_some, Option.map_none, Sem.run_bind, run_sliceAt_string w 9 _ _ _ _ Try.underlying9, run_slice_string_h w 9 (strB l) Try.underlying9 k (j : Int) (by omega) h2, Result.andThen_ok, Sem.run_pure, Int.toNat_natCast]
  rw [strB_take]
theorem ss_h {ops : Array Oper} {rest : List Oper} {o : Oper} {a : Act} {w : World} {Q : Exit → Act → World → Prop} (hw : Region.wanted o (yielded ops a.tmps) = true) {x y : Operand} (ho : o.op = .slice 9 x none (some y) none) {l : List Nat} (j : Nat) {J : Int} {k : IntKind}
    (hx : a.eval x = .string (strB l)) (hy : a.eval y = .int k J) (hJ : J = (j : Int)) (hj : j ≤ l.length)
    (h : wpList Try.prog ops Q rest (a.put o.dst (.string (strB (l.take j)))) w) : wpList Try.prog ops Q (o :: rest) a w :=
  valS hw _ (ss_run ho hx hy hJ hj) h
end Go.Proofs.Ytalbiggmmmkclaa
