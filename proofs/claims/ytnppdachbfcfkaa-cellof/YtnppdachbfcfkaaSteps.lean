/-
  Single operations of a list that yield one value, guarded or not; cells that are the same.
-/
import Derived.Test.YtnppdachbfcfkaaOnes
namespace Go.Proofs.Ytnppdachbfcfkaa
open Go.RowKit
set_option linter.unusedVariables false

section
variable {P : Program} {ops : Array Oper} {rest : List Oper} {o : Oper} {a : Act} {w : World} {Q : Exit → Act → World → Prop}
theorem val_step (hw : Region.wanted o (yielded ops a.tmps) = true) (v : Value) (hr : (execOp a.eval o).run P w = .ok (.value v) w) (h : wpList P ops Q rest (a.put o.dst v) w) : wpList P ops Q (o :: rest) a w := by
  unfold wpList
  rw [if_pos hw]
  left
  unfold Oper.wp
  rw [hr, Oper.upon_value]
  exact h
end
section
variable {ops : Array Oper} {rest : List Oper} {o : Oper} {a : Act} {w : World} {Q : Exit → Act → World → Prop}
theorem eql_same (hw : Region.wanted o (yielded ops a.tmps) = true) {x y : Operand} {t' : TypeId} {c d : Nat → Int} (ho : o.op = .binOp .eql 31 x y t') (hx : a.eval x = .agg (CA c)) (hy : a.eval y = .agg (CA d)) (he : eqC c d = true)
    (h : wpList Try.prog ops Q rest (a.put o.dst (.bool true)) w) : wpList Try.prog ops Q (o :: rest) a w :=
  val_step hw _ (by rw [eq_oper ho hx hy w, he]) h
theorem bd_zero (hw : Region.wanted o (yielded ops a.tmps) = true) (ho : o.op = .build 31 #[])
    (h : wpList Try.prog ops Q rest (a.put o.dst (.agg (CA zc))) w) : wpList Try.prog ops Q (o :: rest) a w :=
  val_step hw _ (bd_run ho built0 (by simp) w) h
end
theorem srow_keep {W W' : World} {g off : Nat} {l : List (Nat → Int)} (h : SRow W g off l) (hg : 0 < l.length → g < W.heap.size) (hb : Below W.heap.size W W') : SRow W' g off l := by
  intro j s hs i hi
  have hl : 0 < l.length := by have := (List.getElem?_eq_some_iff.1 hs).1; omega
  exact ⟨(hb.cell (p := ⟨g, _, none⟩) (hg hl)).trans (h j s hs i hi).1, (h j s hs i hi).2⟩
theorem srow_fit {W : World} {g off : Nat} {l : List (Nat → Int)} (hr : SRow W g off l) : ∀ s ∈ l, Fit (s 5) := fun s hs => by
  obtain ⟨j, hj, e⟩ := List.mem_iff_getElem.1 hs
  exact (hr j s (by rw [List.getElem?_eq_getElem hj, e]) 5 (by omega)).2
theorem srow_wf {W : World} {g off : Nat} {l : List (Nat → Int)} (hr : SRow W g off l) : ∀ c ∈ l.map oneS, Wf c := fun c hc => by
  obtain ⟨s, hs, rfl⟩ := List.mem_map.1 hc
  obtain ⟨j, hj, e⟩ := List.mem_iff_getElem.1 hs
  have f := fun i hi => (hr j s (by rw [List.getElem?_eq_getElem hj, e]) i hi).2
  exact wf_one _ _ _ _ (f 0 (by omega)) (f 1 (by omega)) (f 3 (by omega)) (f 5 (by omega))
end Go.Proofs.Ytnppdachbfcfkaa
