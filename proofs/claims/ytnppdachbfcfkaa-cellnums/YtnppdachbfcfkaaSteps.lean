/-
  Single operations of a list that yield one value, guarded or not; cells that are the same.
-/
import Derived.Test.YtnppdachbfcfkaaOnes
namespace Go.Proofs.Ytnppdachbfcfkaa
open Go.RowKit
set_option linter.unusedVariables false

section
variable {P : Program} {ops : Array Oper} {rest : List Oper} {o : Oper} {a : Act} {w : World} {Q : Exit → Act → World → Prop}
theorem val_step (hw : Region.wanted o (yielded ops a.tmps) = true) (v : Value) (hr : (execOp a.eval o).run P w = .ok (.value v) w) (h : wpList P ops Q rest (a.put o.dst v) w) : wpList P ops Q (o :: rest) a w := by
  unfold wpList
  rw [if_pos hw]
  left
  unfold Oper.wp
  rw [hr, Oper.upon_value]
  exact h
end
section
variable {ops : Array Oper} {rest : List Oper} {o : Oper} {a : Act} {w : World} {Q : Exit → Act → World → Prop}
theorem eql_same (hw : Region.wanted o (yielded ops a.tmps) = true) {x y : Operand} {t' : TypeId} {c d : Nat → Int} (ho : o.op = .binOp .eql 31 x y t') (hx : a.eval x = .agg (CA c)) (hy : a.eval y = .agg (CA d)) (he : eqC c d = true)
    (h : wpList Try.prog ops Q rest (a.put o.dst (.bool true)) w) : wpList Try.prog ops Q (o :: rest) a w :=
  val_step hw _ (by rw [eq_oper ho hx hy w, he]) h
theorem eql_b (hw : Region.wanted o (yielded ops a.tmps) = true) {x y : Operand} {t' : TypeId} {c d : Nat → Int} {b : Bool} (ho : o.op = .binOp .eql 31 x y t') (hx : a.eval x = .agg (CA c)) (hy : a.eval y = .agg (CA d)) (he : eqC c d = b)
    (h : wpList Try.prog ops Q rest (a.put o.dst (.bool b)) w) : wpList Try.prog ops Q (o :: rest) a w :=
  val_step hw _ (by rw [eq_oper ho hx hy w, he]) h
theorem bd_zero (hw : Region.wanted o (yielded ops a.tmps) = true) (ho : o.op = .build 31 #[])
    (h : wpList Try.prog ops Q rest (a.put o.dst (.agg (CA zc))) w) : wpList Try.prog ops Q (o :: rest) a w :=
  val_step hw _ (bd_run ho built0 (by simp) w) h
end
/-- A cell out of the middle of a row, at one operation. -/
theorem ldm_oper {o : Oper} {ρ : Operand → Value} {x : Operand} {b q : Nat} {c : Nat → Int} {w : World} (ho : o.op = .load 31 x) (hx : ρ x = .pointer (some ⟨b, q, none⟩)) (hr : w.rangeAt b q (CA c).toList) :
    (execOp ρ o).run Try.prog w = .ok (.value (.agg (CA c))) w := by
  unfold execOp
  simp only [ho, hx, Instr.loadAt, Instr.sureAddr, Sem.run_bind, Sem.run_pure, Result.andThen_ok, run_loadVar_mid w b q 31 (CA c).toList _ hr Try.underlying31 rfl (by rw [info_cell c]; simp)]
theorem ldm_step {ops : Array Oper} {rest : List Oper} {o : Oper} {a : Act} {w : World} {Q : Exit → Act → World → Prop} (hw : Region.wanted o (yielded ops a.tmps) = true) {x : Operand} {b q : Nat} {c : Nat → Int} (ho : o.op = .load 31 x) (hr : w.rangeAt b q (CA c).toList) (hx : a.eval x = .pointer (some ⟨b, q, none⟩))
    (h : wpList Try.prog ops Q rest (a.put o.dst (.agg (CA c))) w) : wpList Try.prog ops Q (o :: rest) a w := val_step hw _ (ldm_oper ho hx hr) h
theorem valW {P : Program} {o : Oper} {a : Act} {w : World} {K : Act → World → Prop} {Q : Exit → Act → World → Prop} (d : Option Tmp) (hd : o.dst = d) (v : Value) (hr : (execOp a.eval o).run P w = .ok (.value v) w) (h : K (a.put d v) w) : o.wp P a w K Q := by
  subst hd
  unfold Oper.wp
  rw [hr, Oper.upon_value]
  exact h
theorem crow_keep {W W' : World} {g off : Nat} {l : List (Nat → Int)} (h : CRow W g off l) (hg : g < W.heap.size) (hb : Below W.heap.size W W') : CRow W' g off l := by
  intro j c hc i v hv
  rw [hb.cell (p := ⟨g, _, none⟩) hg]; exact h j c hc i v hv
theorem srow_keep {W W' : World} {g off : Nat} {l : List (Nat → Int)} (h : SRow W g off l) (hg : 0 < l.length → g < W.heap.size) (hb : Below W.heap.size W W') : SRow W' g off l := by
  intro j s hs i hi
  have hl : 0 < l.length := by have := (List.getElem?_eq_some_iff.1 hs).1; omega
  exact ⟨(hb.cell (p := ⟨g, _, none⟩) (hg hl)).trans (h j s hs i hi).1, (h j s hs i hi).2⟩
theorem srow_fit {W : World} {g off : Nat} {l : List (Nat → Int)} (hr : SRow W g off l) : ∀ s ∈ l, Fit (s 5) := fun s hs => by
  obtain ⟨j, hj, e⟩ := List.mem_iff_getElem.1 hs
  exact (hr j s (by rw [List.getElem?_eq_getElem hj, e]) 5 (by omega)).2
theorem srow_wf {W : World} {g off : Nat} {l : List (Nat → Int)} (hr : SRow W g off l) : ∀ c ∈ l.map oneS, Wf c := fun c hc => by
  obtain ⟨s, hs, rfl⟩ := List.mem_map.1 hc
  obtain ⟨j, hj, e⟩ := List.mem_iff_getElem.1 hs
  have f := fun i hi => (hr j s (by rw [List.getElem?_eq_getElem hj, e]) i hi).2
  exact wf_one _ _ _ _ (f 0 (by omega)) (f 1 (by omega)) (f 3 (by omega)) (f 5 (by omega))
theorem join_at (g o off n cap : Nat) (l : List (Nat → Int)) (w : World) (hn : l.length = n) (hb : n ≤ 1000000) (hl : ∀ c ∈ l, Wf c) (ho : 0 < n → o = off) (hr : CRow w g off l) (hg : g < w.heap.size) :
    Calls Try.prog 10 #[.slice (some ⟨g, o, none⟩) n cap] w fun e w' => e = .returned (.agg (CA (joinF l))) ∧ Below w.heap.size w w' := by
  refine join_any g o n cap l w hn hb hl ?_ hg
  intro j c hc
  have := (List.getElem?_eq_some_iff.1 hc).1
  rw [ho (by omega)]
  exact hr j c hc
theorem slc_cell : Try.prog.underlying 33 = some (.slice (Try.prog.elem 33)) := by kernel_rfl
theorem slc_size (w : World) : (sizeOf (Try.prog.elem 33)).run Try.prog w = .ok 74 w := by kernel_rfl
theorem slice3 (a b c : Nat → Int) (w : World) : (Instr.buildSlice 33 3 #[(0, .agg (CA a)), (1, .agg (CA b)), (2, .agg (CA c))]).run Try.prog w = .ok (.slice (some ⟨w.heap.size, 0, none⟩) 3 3) (w.alloc (.cells (CA a ++ CA b ++ CA c) 31)) := by kernel_rfl
theorem bsW3 {o : Oper} {a : Act} {w : World} {K : Act → World → Prop} {Q : Exit → Act → World → Prop} (d : Option Tmp) (hd : o.dst = d) {parts : Array (Nat × Operand)} (ho : o.op = .buildSlice 33 3 parts) (x y z : Nat → Int)
    (hl : parts.map (fun (i, x) => (i, a.eval x)) = #[(0, .agg (CA x)), (1, .agg (CA y)), (2, .agg (CA z))])
    (h : ∀ W', Blk W' w.heap.size (CA x ++ CA y ++ CA z) 31 → Below w.heap.size w W' → K (a.put d (.slice (some ⟨w.heap.size, 0, none⟩) 3 3)) W') : o.wp Try.prog a w K Q := by
  subst hd
  unfold Oper.wp execOp
  simp only [ho, Sem.run_bind, hl, slice3, Result.andThen_ok]
  exact h _ (Blk.new _ _ _) ((Below.refl _ _).alloc (Nat.le_refl _) _)
theorem crow3 {W : World} {g : Nat} {x y z : Nat → Int} {t : TypeId} (h : Blk W g (CA x ++ CA y ++ CA z) t) : CRow W g 0 [x, y, z] := by
  intro j c hc i v hv
  rw [h.cell]
  have hi : i < 74 := by have := (List.getElem?_eq_some_iff.1 hv).1; simpa [CA_size] using this
  match j with
  | 0 =>
    simp at hc; subst hc
    rw [Nat.zero_mul, Nat.zero_add, Array.getElem?_append_left (by rw [Array.size_append, CA_size, CA_size]; omega), Array.getElem?_append_left (by rw [CA_size]; omega)]; simpa using hv
  | 1 =>
    simp at hc; subst hc
    rw [Nat.one_mul, Nat.zero_add, Array.getElem?_append_left (by rw [Array.size_append, CA_size, CA_size]; omega), Array.getElem?_append_right (by rw [CA_size]; omega), CA_size, Nat.add_sub_cancel_left]; simpa using hv
  | 2 =>
    simp at hc; subst hc
    rw [Nat.zero_add, Array.getElem?_append_right (by rw [Array.size_append, CA_size, CA_size]; omega), Array.size_append, CA_size, CA_size, show 2 * 74 + i - (74 + 74) = i from by omega]; simpa using hv
  | n + 3 => simp at hc
end Go.Proofs.Ytnppdachbfcfkaa
