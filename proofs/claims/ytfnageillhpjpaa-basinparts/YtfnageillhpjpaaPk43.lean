/-
  slices.Equal, of numbers, of operations and of entries.
  slices.Equal of operations and of entries.
-/
import Derived.Test.YtfnageillhpjpaaPk42
namespace Go.Proofs.Ytfnageillhpjpaa
set_option maxRecDepth 100000
open Go.RowKit Go.Shelf
set_option linter.unusedVariables false

theorem take_eq_next {α : Type} {l m : List α} {k : Nat} {x y : α} (h : l.take k = m.take k) (hx : l[k]? = some x) (hy : m[k]? = some y) (e : x = y) : l.take (k + 1) = m.take (k + 1) := by
  rw [List.take_add_one, List.take_add_one, h, hx, hy, e]
end Go.Proofs.Ytfnageillhpjpaa
namespace Go.Proofs.Ytfnageillhpjpaa
set_option maxRecDepth 100000
open Go.RowKit Go.Shelf
set_option linter.unusedVariables false

theorem range_keep {W W' : World} {g q : Nat} {cs : List Value} (h : W.rangeAt g q cs) (hg : g < W.heap.size) (hb : Below W.heap.size W W') : W'.rangeAt g q cs := fun j v hv => (hb.cell (p := ⟨g, q + j, none⟩) hg).trans (h j v hv)
theorem eqL_next {k : Nat} {l m : List (Nat → Int)} {j : Nat} {x y : Nat → Int} (h : EqL k (l.take j) (m.take j)) (hx : l[j]? = some x) (hy : m[j]? = some y) (e : ∀ i, i < k → x i = y i) : EqL k (l.take (j + 1)) (m.take (j + 1)) := by
  have l1 := (List.getElem?_eq_some_iff.1 hx).1
  have l2 := (List.getElem?_eq_some_iff.1 hy).1
  refine ⟨by rw [List.length_take, List.length_take]; omega, fun i a b ha hb => ?_⟩
  have hi : i < j + 1 := by have := (List.getElem?_eq_some_iff.1 ha).1; rw [List.length_take] at this; omega
  rw [List.getElem?_take_of_lt hi] at ha hb
  by_cases c : i = j
  · subst c
    rw [hx] at ha
    rw [hy] at hb
    cases ha; cases hb
    exact e
  · exact h.2 i a b (by rw [List.getElem?_take_of_lt (by omega)]; exact ha) (by rw [List.getElem?_take_of_lt (by omega)]; exact hb)

theorem ld_ops {o : Oper} {ρ : Operand → Value} {x : Operand} {b q : Nat} {c : Nat → Int} {w : World} (ho : o.op = .load 27 x) (hx : ρ x = .pointer (some ⟨b, q, none⟩)) (hr : w.rangeAt b q (AG 5 k64 c).toList) :
    (execOp ρ o).run Try.prog w = .ok (.value (.agg (AG 5 k64 c))) w := by
  unfold execOp
  have h : (Try.prog.info? 27).map (·.size) = some (AG 5 k64 c).toList.length := by rw [AG_len]; kernel_rfl
  simp only [ho, hx, Instr.loadAt, Instr.sureAddr, Sem.run_bind, Sem.run_pure, Result.andThen_ok, run_loadVar_mid w b q 27 (AG 5 k64 c).toList _ hr Try.underlying27 rfl h]
theorem neqo_ops {o : Oper} {ρ : Operand → Value} {x y : Operand} {t' : TypeId} {c d : Nat → Int} (ho : o.op = .binOp .neq 27 x y t') (hx : ρ x = .agg (AG 5 k64 c)) (hy : ρ y = .agg (AG 5 k64 d)) (w : World) :
    (execOp ρ o).run Try.prog w = .ok (.value (.bool (!eqA 5 c d))) w := by
  unfold execOp
  have eg : ∀ (xs ys : Array Value), (eqGuard .neq 27 x y (.agg xs) (.agg ys)).run Try.prog w = .ok () w := fun xs ys => run_eqGuard_agg w .neq 27 x y xs ys (by kernel_rfl)
  simp only [ho, hx, hy, Sem.run_bind, eg, neq_op5, Result.andThen_ok, Sem.run_pure]
theorem ld_ents {o : Oper} {ρ : Operand → Value} {x : Operand} {b q : Nat} {c : Nat → Int} {w : World} (ho : o.op = .load 90 x) (hx : ρ x = .pointer (some ⟨b, q, none⟩)) (hr : w.rangeAt b q (AG 76 ek c).toList) :
    (execOp ρ o).run Try.prog w = .ok (.value (.agg (AG 76 ek c))) w := by
  unfold execOp
  have h : (Try.prog.info? 90).map (·.size) = some (AG 76 ek c).toList.length := by rw [AG_len]; kernel_rfl
  simp only [ho, hx, Instr.loadAt, Instr.sureAddr, Sem.run_bind, Sem.run_pure, Result.andThen_ok, run_loadVar_mid w b q 90 (AG 76 ek c).toList _ hr Try.underlying90 rfl h]
theorem neqo_ents {o : Oper} {ρ : Operand → Value} {x y : Operand} {t' : TypeId} {c d : Nat → Int} (ho : o.op = .binOp .neq 90 x y t') (hx : ρ x = .agg (AG 76 ek c)) (hy : ρ y = .agg (AG 76 ek d)) (w : World) :
    (execOp ρ o).run Try.prog w = .ok (.value (.bool (!eqA 76 c d))) w := by
  unfold execOp
  have eg : ∀ (xs ys : Array Value), (eqGuard .neq 90 x y (.agg xs) (.agg ys)).run Try.prog w = .ok () w := fun xs ys => run_eqGuard_agg w .neq 90 x y xs ys (by kernel_rfl)
  simp only [ho, hx, hy, Sem.run_bind, eg, neq_ent, Result.andThen_ok, Sem.run_pure]
end Go.Proofs.Ytfnageillhpjpaa
