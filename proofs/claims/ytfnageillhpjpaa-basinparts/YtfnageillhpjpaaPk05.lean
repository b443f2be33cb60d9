/-
  Blocks of memory that are known whole: kept behind what turns other blocks; whole values out of them and into them in one step. Nothing here names the program.
-/
import Derived.WalkKit
import Derived.Below
import Derived.Laws.Rows
import Derived.Laws.Tables
import Derived.Deep.MidRow
namespace Go.Proofs.Ytfnageillhpjpaa
set_option maxRecDepth 100000
open Go.RowKit
set_option linter.unusedVariables false

/-- Block b holds just these cells, and may be written. -/
def Blk (W : World) (b : Nat) (vs : Array Value) (t : TypeId) : Prop := W.heap[b]? = some (.cells vs t (0, 0))
/-- Nothing but block b has turned. -/
structure Chg (b : Nat) (W W' : World) : Prop where
  os : W'.os = W.os
  tape : W'.tape = W.tape
  output : W'.output = W.output
  size : W'.heap.size = W.heap.size
  other : ∀ k, k ≠ b → W'.heap[k]? = W.heap[k]?

theorem Blk.lt {W : World} {b : Nat} {vs : Array Value} {t : TypeId} (h : Blk W b vs t) : b < W.heap.size := (Array.getElem?_eq_some_iff.1 h).1
theorem Blk.cell {W : World} {b : Nat} {vs : Array Value} {t : TypeId} (h : Blk W b vs t) (i : Nat) : W.cell? ⟨b, i, none⟩ = vs[i]? := cell_of_row W b i vs t (0, 0) h
theorem Blk.at {W : World} {b : Nat} {vs : Array Value} {t : TypeId} (h : Blk W b vs t) {i : Nat} {v : Value} (hv : vs[i]? = some v) : W.cell? ⟨b, i, none⟩ = some v := (h.cell i).trans hv
theorem Blk.frozen {W : World} {b : Nat} {vs : Array Value} {t : TypeId} (h : Blk W b vs t) (i : Nat) : W.frozen? ⟨b, i, none⟩ = false := by
  unfold World.frozen?; have h' : W.heap[b]? = _ := h; simp [h']
theorem Blk.keep {W W' : World} {b : Nat} {vs : Array Value} {t : TypeId} (h : Blk W b vs t) (hb : Below W.heap.size W W') : Blk W' b vs t := by
  unfold Blk; rw [hb.block b h.lt]; exact h
theorem Blk.chg {W W' : World} {b c : Nat} {vs : Array Value} {t : TypeId} (h : Blk W b vs t) (hc : Chg c W W') (hn : b ≠ c) : Blk W' b vs t := by
  unfold Blk; rw [hc.other b hn]; exact h
theorem Blk.new (W : World) (vs : Array Value) (t : TypeId) : Blk (W.alloc (.cells vs t)) W.heap.size vs t := by
  show (W.heap.push _)[W.heap.size]? = _; simp
theorem Blk.alloc {W : World} {b : Nat} {vs : Array Value} {t : TypeId} (h : Blk W b vs t) (o : Obj) : Blk (W.alloc o) b vs t := h.keep ((Below.refl _ _).alloc (Nat.le_refl _) _)
theorem Blk.drew {W : World} {b : Nat} {vs : Array Value} {t : TypeId} (h : Blk W b vs t) : Blk W.drew b vs t := h
theorem Blk.set {W : World} {b : Nat} {vs : Array Value} {t : TypeId} (h : Blk W b vs t) (i : Nat) (v : Value) : Blk (W.setCell ⟨b, i, none⟩ v) b (vs.setIfInBounds i v) t := by
  have h' : W.heap[b]? = _ := h
  simp [Blk, World.setCell, Array.getElem?_modify, h']
theorem chg_set (W : World) (b i : Nat) (v : Value) : Chg b W (W.setCell ⟨b, i, none⟩ v) :=
  ⟨rfl, rfl, rfl, by simp [World.setCell], fun k hk => Below.heap_setCell W ⟨b, i, none⟩ v k hk⟩
theorem Chg.refl (b : Nat) (W : World) : Chg b W W := ⟨rfl, rfl, rfl, rfl, fun _ _ => rfl⟩
theorem Chg.trans {b : Nat} {A B C : World} (h : Chg b A B) (k : Chg b B C) : Chg b A C :=
  ⟨k.os.trans h.os, k.tape.trans h.tape, k.output.trans h.output, k.size.trans h.size, fun i hi => (k.other i hi).trans (h.other i hi)⟩
theorem Chg.below {b n : Nat} {W W' : World} (h : Chg b W W') (hn : n ≤ b) : Below n W W' :=
  ⟨h.os, h.tape, h.output, Nat.le_of_eq h.size.symm, fun k hk => h.other k (by omega)⟩
theorem ab_chg {a W W' : World} {b : Nat} (h : Below a.heap.size a W) (hc : Chg b W W') (hn : a.heap.size ≤ b) : Below a.heap.size a W' := h.trans (hc.below hn)
theorem chg_setRow (W : World) (b : Nat) (vs : Array Value) : Chg b W (W.setRow b vs) :=
  ⟨rfl, rfl, rfl, by simp [World.setRow], fun k hk => by simp [World.setRow, Array.getElem?_modify, Ne.symm hk]⟩

section
variable {P : Program} {ops : Array Oper} {rest : List Oper} {o : Oper} {a : Act} {w : World} {Q : Exit → Act → World → Prop}
/-- A whole value out of a block. -/
theorem ld_blk (hgd : o.guard = none) {ty : TypeId} {x : Operand} (ho : o.op = .load ty x) {b : Nat} {vs : Array Value} {t : TypeId} (hB : Blk w b vs t) (hx : a.eval x = .pointer (some ⟨b, 0, none⟩))
    (d : TypeDesc) (hu : P.underlying ty = some d) (hd : (match d with | .struct _ | .array _ _ => true | _ => false) = true) (hi : (P.info? ty).map (·.size) = some vs.size)
    (h : wpList P ops Q rest (a.put o.dst (.agg vs)) w) : wpList P ops Q (o :: rest) a w :=
  wpList_load_row hgd ty x ho b hx t vs (0, 0) d hB hu hd hi h
/-- A whole value into a block. -/
theorem st_blk (hgd : o.guard = none) {ty : TypeId} {x y : Operand} (ho : o.op = .store ty x y) {b : Nat} {old vs : Array Value} {t : TypeId} (hB : Blk w b old t) (hx : a.eval x = .pointer (some ⟨b, 0, none⟩)) (hy : a.eval y = .agg vs)
    (hi : (P.info? ty).map (·.size) = some vs.size) (hold : old.size = vs.size) (h1 : vs.all (·.oneCell') = true)
    (h : ∀ W', Blk W' b vs t → Chg b w W' → wpList P ops Q rest (a.put o.dst undef) W') : wpList P ops Q (o :: rest) a w :=
  wpList_store_row hgd ty x y ho b vs hx hy t old hB hi hold h1 (h _ (setRow_heap w b old vs t (0, 0) hB) (chg_setRow _ _ _))
/-- A new block, all zero. -/
theorem al_blk (hgd : o.guard = none) {ty : TypeId} (ho : o.op = .alloc ty) (z : Array Value) (hz : (zeroValue ty).run P w = .ok (.agg z) w)
    (h : ∀ W', W' = w.alloc (.cells z ty) → Blk W' w.heap.size z ty → Below w.heap.size w W' → wpList P ops Q rest (a.put o.dst (.pointer (some ⟨w.heap.size, 0, none⟩))) W') : wpList P ops Q (o :: rest) a w := by
  have h' := h _ rfl (Blk.new _ _ _) ((Below.refl _ _).alloc (Nat.le_refl _) _)
  refine wpList_plain hgd fun K hK => ?_
  unfold Oper.wp execOp
  simp only [ho, Instr.alloc, Sem.run_bind, hz, Result.andThen_ok]
  simp [newVar, newRow, Value.cells, go_sem]
  exact hK _ _ h'
/-- A value built out of its parts. -/
theorem bd_blk (hgd : o.guard = none) {ty : TypeId} {parts : Array (Nat × Operand)} (ho : o.op = .build ty parts) (vs : Array Value) (hf : P.built ty (parts.map fun (i, x) => (i, a.eval x)).toList = some vs)
    (h : wpList P ops Q rest (a.put o.dst (.agg vs)) w) : wpList P ops Q (o :: rest) a w :=
  wpList_build hgd ty parts ho (by rw [hf]; rfl) (by rw [hf]; exact h)
end

/-! The same at one operation, for regions that draw their order. -/
section
variable {P : Program} {o : Oper} {a : Act} {w : World} {K : Act → World → Prop} {Q : Exit → Act → World → Prop}
theorem alW (d : Option Tmp) (hd : o.dst = d) {ty : TypeId} (ho : o.op = .alloc ty) (z : Array Value) (hz : (zeroValue ty).run P w = .ok (.agg z) w)
    (h : ∀ W', Blk W' w.heap.size z ty → Below w.heap.size w W' → K (a.put d (.pointer (some ⟨w.heap.size, 0, none⟩))) W') : o.wp P a w K Q := by
  subst hd
  have h' := h _ (Blk.new _ _ _) ((Below.refl _ _).alloc (Nat.le_refl _) _)
  unfold Oper.wp execOp
  simp only [ho, Instr.alloc, Sem.run_bind, hz, Result.andThen_ok]
  simp [newVar, newRow, Value.cells, go_sem]
  exact h'
theorem stW (d : Option Tmp) (hd : o.dst = d) {ty : TypeId} {x y : Operand} (ho : o.op = .store ty x y) {b : Nat} {old vs : Array Value} {t : TypeId} (hB : Blk w b old t) (hx : a.eval x = .pointer (some ⟨b, 0, none⟩)) (hy : a.eval y = .agg vs)
    (hi : (P.info? ty).map (·.size) = some vs.size) (hold : old.size = vs.size) (h1 : vs.all (·.oneCell') = true)
    (h : ∀ W', Blk W' b vs t → Chg b w W' → K (a.put d undef) W') : o.wp P a w K Q := by
  subst hd
  exact wp_store_row ty x y ho b vs hx hy t old hB hi hold h1 (h _ (setRow_heap w b old vs t (0, 0) hB) (chg_setRow _ _ _))
theorem bd_run {ty : TypeId} {parts : Array (Nat × Operand)} {ρ : Operand → Value} (ho : o.op = .build ty parts) {vs : Array Value} {L : List (Nat × Value)} (hf : P.built ty L = some vs) (hl : (parts.map fun (i, x) => (i, ρ x)).toList = L) (w : World) :
    (execOp ρ o).run P w = .ok (.value (.agg vs)) w := by
  subst hl
  unfold execOp
  simp only [ho, Sem.run_bind, run_build w ty _ vs hf, Result.andThen_ok, Sem.run_pure]
end
theorem blk_ne {W : World} {b r : Nat} {x y : Array Value} {t u : TypeId} (h : Blk W b x t) (k : Blk W r y u) (hn : t ≠ u) : b ≠ r := by
  intro e
  subst e
  unfold Blk at h k
  rw [h] at k
  cases k
  exact hn rfl
theorem Blk.two {W : World} {b : Nat} {x y : Value} {t : TypeId} (h : Blk W b #[x, y] t) : W.cell? ⟨b, 0, none⟩ = some x ∧ W.cell? ⟨b, 1, none⟩ = some y := ⟨h.at (i := 0) rfl, h.at (i := 1) rfl⟩
theorem Blk.five {W : World} {b : Nat} {x0 x1 x2 x3 x4 : Value} {t : TypeId} (h : Blk W b #[x0, x1, x2, x3, x4] t) : W.cell? ⟨b, 0, none⟩ = some x0 ∧ W.cell? ⟨b, 1, none⟩ = some x1 ∧ W.cell? ⟨b, 2, none⟩ = some x2 ∧ W.cell? ⟨b, 3, none⟩ = some x3 ∧ W.cell? ⟨b, 4, none⟩ = some x4 :=
  ⟨h.at (i := 0) rfl, h.at (i := 1) rfl, h.at (i := 2) rfl, h.at (i := 3) rfl, h.at (i := 4) rfl⟩
/-- Three blocks, just made. -/
theorem blk3 (w : World) (x y z : Array Value) (t u v : TypeId) : ∃ A, ((w.alloc (.cells x t)).alloc (.cells y u)).alloc (.cells z v) = A ∧ Blk A w.heap.size x t ∧ Blk A (w.heap.size + 1) y u ∧ Blk A (w.heap.size + 1 + 1) z v ∧ Below w.heap.size w A := by
  refine ⟨_, rfl, ((Blk.new w _ _).alloc _).alloc _, ?_, ?_, Below.alloc (Below.alloc (Below.alloc (Below.refl _ _) (Nat.le_refl _) _) (by simp) _) (by simp; omega) _⟩
  · refine Blk.alloc ?_ _; simpa using Blk.new (w.alloc (.cells x t)) y u
  · simpa using Blk.new ((w.alloc (.cells x t)).alloc (.cells y u)) z v
theorem blk2 (w : World) (x y : Array Value) (t u : TypeId) : ∃ A, (w.alloc (.cells x t)).alloc (.cells y u) = A ∧ Blk A w.heap.size x t ∧ Blk A (w.heap.size + 1) y u ∧ Below w.heap.size w A := by
  refine ⟨_, rfl, (Blk.new w _ _).alloc _, ?_, Below.alloc (Below.alloc (Below.refl _ _) (Nat.le_refl _) _) (by simp) _⟩
  simpa using Blk.new (w.alloc (.cells x t)) y u
theorem blk1 (w : World) (x : Array Value) (t : TypeId) : ∃ A, w.alloc (.cells x t) = A ∧ Blk A w.heap.size x t ∧ Below w.heap.size w A := ⟨_, rfl, Blk.new w _ _, (Below.refl _ _).alloc (Nat.le_refl _) _⟩
theorem results_c2 {P : Program} {fn : Func} {p s : Tmp} {ty : TypeId} (h : fn.results = #[.cell p ty, .tmp s]) (tmps : Array Value) (w : World) (g : Nat) (t : TypeId) (cs : Array Value) (fr : Nat × Nat) (d : TypeDesc) (u : Value)
    (hp : tmps.getD p undef = .pointer (some ⟨g, 0, none⟩)) (hs : tmps.getD s undef = u) (hg : w.heap[g]? = some (.cells cs t fr))
    (hu : P.underlying ty = some d) (hd : (match d with | .struct _ | .array _ _ => true | _ => false) = true) (hi : (P.info? ty).map (·.size) = some cs.size) :
    (results fn tmps).run P w = .ok (.tuple #[.agg cs, u]) w := by
  have hp' : tmps[p]?.getD undef = .pointer (some ⟨g, 0, none⟩) := by simpa using hp
  have hs' : tmps[s]?.getD undef = u := by simpa using hs
  simp [results, h, hp', hs', asAddr, run_loadVar_row w g t ty cs fr d hg hu hd hi]
theorem results_c3 {P : Program} {fn : Func} {p s r : Tmp} {ty : TypeId} (h : fn.results = #[.cell p ty, .tmp s, .tmp r]) (tmps : Array Value) (w : World) (g : Nat) (t : TypeId) (cs : Array Value) (fr : Nat × Nat) (d : TypeDesc) (u v : Value)
    (hp : tmps.getD p undef = .pointer (some ⟨g, 0, none⟩)) (hs : tmps.getD s undef = u) (hr : tmps.getD r undef = v) (hg : w.heap[g]? = some (.cells cs t fr))
    (hu : P.underlying ty = some d) (hd : (match d with | .struct _ | .array _ _ => true | _ => false) = true) (hi : (P.info? ty).map (·.size) = some cs.size) :
    (results fn tmps).run P w = .ok (.tuple #[.agg cs, u, v]) w := by
  have hp' : tmps[p]?.getD undef = .pointer (some ⟨g, 0, none⟩) := by simpa using hp
  have hs' : tmps[s]?.getD undef = u := by simpa using hs
  have hr' : tmps[r]?.getD undef = v := by simpa using hr
  simp [results, h, hp', hs', hr', asAddr, run_loadVar_row w g t ty cs fr d hg hu hd hi]
end Go.Proofs.Ytfnageillhpjpaa
