/-
  Blocks of memory that are known whole: kept behind what turns other blocks; whole values out of them and into them in one step. Nothing here names the program.
  Slices of numbers that the call makes.
  'make' of an empty slice of the call's own, at one operation; rows of three and of two numbers. Nothing here names the program.
-/
import Derived.WalkKit
import Derived.Below
import Derived.Laws.Rows
import Derived.Laws.Tables
import Derived.Deep.MidRow
import Derived.Test.YtlhamckpgijjmaaPk03
import Derived.Test.YtlhamckpgijjmaaPk02
import Derived.Laws.MakeOwn
import Derived.Laws.OwnMore
namespace Go.Proofs.Ytlhamckpgijjmaa
open Go.RowKit
set_option linter.unusedVariables false

/-- Block b holds just these cells, and may be written. -/
def Blk (W : World) (b : Nat) (vs : Array Value) (t : TypeId) : Prop := W.heap[b]? = some (.cells vs t (0, 0))
/-- Nothing but block b has turned. -/
structure Chg (b : Nat) (W W' : World) : Prop where
  os : W'.os = W.os
  tape : W'.tape = W.tape
  output : W'.output = W.output
  size : W'.heap.size = W.heap.size
  other : ∀ k, k ≠ b → W'.heap[k]? = W.heap[k]?

theorem Blk.lt {W : World} {b : Nat} {vs : Array Value} {t : TypeId} (h : Blk W b vs t) : b < W.heap.size := (Array.getElem?_eq_some_iff.1 h).1
theorem Blk.cell {W : World} {b : Nat} {vs : Array Value} {t : TypeId} (h : Blk W b vs t) (i : Nat) : W.cell? ⟨b, i, none⟩ = vs[i]? := cell_of_row W b i vs t (0, 0) h
theorem Blk.at {W : World} {b : Nat} {vs : Array Value} {t : TypeId} (h : Blk W b vs t) {i : Nat} {v : Value} (hv : vs[i]? = some v) : W.cell? ⟨b, i, none⟩ = some v := (h.cell i).trans hv
theorem Blk.frozen {W : World} {b : Nat} {vs : Array Value} {t : TypeId} (h : Blk W b vs t) (i : Nat) : W.frozen? ⟨b, i, none⟩ = false := by
  unfold World.frozen?; have h' : W.heap[b]? = _ := h; simp [h']
theorem Blk.keep {W W' : World} {b : Nat} {vs : Array Value} {t : TypeId} (h : Blk W b vs t) (hb : Below W.heap.size W W') : Blk W' b vs t := by
  unfold Blk; rw [hb.block b h.lt]; exact h
theorem Blk.chg {W W' : World} {b c : Nat} {vs : Array Value} {t : TypeId} (h : Blk W b vs t) (hc : Chg c W W') (hn : b ≠ c) : Blk W' b vs t := by
  unfold Blk; rw [hc.other b hn]; exact h
theorem Blk.new (W : World) (vs : Array Value) (t : TypeId) : Blk (W.alloc (.cells vs t)) W.heap.size vs t := by
  show (W.heap.push _)[W.heap.size]? = _; simp
theorem Blk.alloc {W : World} {b : Nat} {vs : Array Value} {t : TypeId} (h : Blk W b vs t) (o : Obj) : Blk (W.alloc o) b vs t := h.keep ((Below.refl _ _).alloc (Nat.le_refl _) _)
theorem Blk.drew {W : World} {b : Nat} {vs : Array Value} {t : TypeId} (h : Blk W b vs t) : Blk W.drew b vs t := h
theorem Blk.set {W : World} {b : Nat} {vs : Array Value} {t : TypeId} (h : Blk W b vs t) (i : Nat) (v : Value) : Blk (W.setCell ⟨b, i, none⟩ v) b (vs.setIfInBounds i v) t := by
  have h' : W.heap[b]? = _ := h
  simp [Blk, World.setCell, Array.getElem?_modify, h']
theorem chg_set (W : World) (b i : Nat) (v : Value) : Chg b W (W.setCell ⟨b, i, none⟩ v) :=
  ⟨rfl, rfl, rfl, by simp [World.setCell], fun k hk => Below.heap_setCell W ⟨b, i, none⟩ v k hk⟩
theorem Chg.refl (b : Nat) (W : World) : Chg b W W := ⟨rfl, rfl, rfl, rfl, fun _ _ => rfl⟩
theorem Chg.trans {b : Nat} {A B C : World} (h : Chg b A B) (k : Chg b B C) : Chg b A C :=
  ⟨k.os.trans h.os, k.tape.trans h.tape, k.output.trans h.output, k.size.trans h.size, fun i hi => (k.other i hi).trans (h.other i hi)⟩
theorem Chg.below {b n : Nat} {W W' : World} (h : Chg b W W') (hn : n ≤ b) : Below n W W' :=
  ⟨h.os, h.tape, h.output, Nat.le_of_eq h.size.symm, fun k hk => h.other k (by omega)⟩
theorem ab_chg {a W W' : World} {b : Nat} (h : Below a.heap.size a W) (hc : Chg b W W') (hn : a.heap.size ≤ b) : Below a.heap.size a W' := h.trans (hc.below hn)
theorem chg_setRow (W : World) (b : Nat) (vs : Array Value) : Chg b W (W.setRow b vs) :=
  ⟨rfl, rfl, rfl, by simp [World.setRow], fun k hk => by simp [World.setRow, Array.getElem?_modify, Ne.symm hk]⟩

section
variable {P : Program} {ops : Array Oper} {rest : List Oper} {o : Oper} {a : Act} {w : World} {Q : Exit → Act → World → Prop}
/-- A whole value out of a block. -/
theorem ld_blk (hgd : o.guard = none) {ty : TypeId} {x : Operand} (ho : o.op = .load ty x) {b : Nat} {vs : Array Value} {t : TypeId} (hB : Blk w b vs t) (hx : a.eval x = .pointer (some ⟨b, 0, none⟩))
    (d : TypeDesc) (hu : P.underlying ty = some d) (hd : (match d with | .struct _ | .array _ _ => true | _ => false) = true) (hi : (P.info? ty).map (·.size) = some vs.size)
    (h : wpList P ops Q rest (a.put o.dst (.agg vs)) w) : wpList P ops Q (o :: rest) a w :=
  wpList_load_row hgd ty x ho b hx t vs (0, 0) d hB hu hd hi h
/-- A whole value into a block. -/
theorem st_blk (hgd : o.guard = none) {ty : TypeId} {x y : Operand} (ho : o.op = .store ty x y) {b : Nat} {old vs : Array Value} {t : TypeId} (hB : Blk w b old t) (hx : a.eval x = .pointer (some ⟨b, 0, none⟩)) (hy : a.eval y = .agg vs)
    (hi : (P.info? ty).map (·.size) = some vs.size) (hold : old.size = vs.size) (h1 : vs.all (·.oneCell') = true)
    (h : ∀ W', Blk W' b vs t → Chg b w W' → wpList P ops Q rest (a.put o.dst undef) W') : wpList P ops Q (o :: rest) a w :=
  wpList_store_row hgd ty x y ho b vs hx hy t old hB hi hold h1 (h _ (setRow_heap w b old vs t (0, 0) hB) (chg_setRow _ _ _))
/-- A new block, all zero. -/
theorem al_blk (hgd : o.guard = none) {ty : TypeId} (ho : o.op = .alloc ty) (z : Array Value) (hz : (zeroValue ty).run P w = .ok (.agg z) w)
    (h : ∀ W', W' = w.alloc (.cells z ty) → Blk W' w.heap.size z ty → Below w.heap.size w W' → wpList P ops Q rest (a.put o.dst (.pointer (some ⟨w.heap.size, 0, none⟩))) W') : wpList P ops Q (o :: rest) a w := by
  have h' := h _ rfl (Blk.new _ _ _) ((Below.refl _ _).alloc (Nat.le_refl _) _)
  refine wpList_plain hgd fun K hK => ?_
  unfold Oper.wp execOp
  simp only [ho, Instr.alloc, Sem.run_bind, hz, Result.andThen_ok]
  simp [newVar, newRow, Value.cells, go_sem]
  exact hK _ _ h'
/-- A value built out of its parts. -/
theorem bd_blk (hgd : o.guard = none) {ty : TypeId} {parts : Array (Nat × Operand)} (ho : o.op = .build ty parts) (vs : Array Value) (hf : P.built ty (parts.map fun (i, x) => (i, a.eval x)).toList = some vs)
    (h : wpList P ops Q rest (a.put o.dst (.agg vs)) w) : wpList P ops Q (o :: rest) a w :=
  wpList_build hgd ty parts ho (by rw [hf]; rfl) (by rw [hf]; exact h)
end

/-! The same at one operation, for regions that draw their order. -/
section
variable {P : Program} {o : Oper} {a : Act} {w : World} {K : Act → World → Prop} {Q : Exit → Act → World → Prop}
theorem alW (d : Option Tmp) (hd : o.dst = d) {ty : TypeId} (ho : o.op = .alloc ty) (z : Array Value) (hz : (zeroValue ty).run P w = .ok (.agg z) w)
    (h : ∀ W', Blk W' w.heap.size z ty → Below w.heap.size w W' → K (a.put d (.pointer (some ⟨w.heap.size, 0, none⟩))) W') : o.wp P a w K Q := by
  subst hd
  have h' := h _ (Blk.new _ _ _) ((Below.refl _ _).alloc (Nat.le_refl _) _)
  unfold Oper.wp execOp
  simp only [ho, Instr.alloc, Sem.run_bind, hz, Result.andThen_ok]
  simp [newVar, newRow, Value.cells, go_sem]
  exact h'
theorem stW (d : Option Tmp) (hd : o.dst = d) {ty : TypeId} {x y : Operand} (ho : o.op = .store ty x y) {b : Nat} {old vs : Array Value} {t : TypeId} (hB : Blk w b old t) (hx : a.eval x = .pointer (some ⟨b, 0, none⟩)) (hy : a.eval y = .agg vs)
    (hi : (P.info? ty).map (·.size) = some vs.size) (hold : old.size = vs.size) (h1 : vs.all (·.oneCell') = true)
    (h : ∀ W', Blk W' b vs t → Chg b w W' → K (a.put d undef) W') : o.wp P a w K Q := by
  subst hd
  exact wp_store_row ty x y ho b vs hx hy t old hB hi hold h1 (h _ (setRow_heap w b old vs t (0, 0) hB) (chg_setRow _ _ _))
theorem bd_run {ty : TypeId} {parts : Array (Nat × Operand)} {ρ : Operand → Value} (ho : o.op = .build ty parts) {vs : Array Value} {L : List (Nat × Value)} (hf : P.built ty L = some vs) (hl : (parts.map fun (i, x) => (i, ρ x)).toList = L) (w : World) :
    (execOp ρ o).run P w = .ok (.value (.agg vs)) w := by
  subst hl
  unfold execOp
  simp only [ho, Sem.run_bind, run_build w ty _ vs hf, Result.andThen_ok, Sem.run_pure]
end
theorem blk_ne {W : World} {b r : Nat} {x y : Array Value} {t u : TypeId} (h : Blk W b x t) (k : Blk W r y u) (hn : t ≠ u) : b ≠ r := by
  intro e
  subst e
  unfold Blk at h k
  rw [h] at k
  cases k
  exact hn rfl
theorem Blk.two {W : World} {b : Nat} {x y : Value} {t : TypeId} (h : Blk W b #[x, y] t) : W.cell? ⟨b, 0, none⟩ = some x ∧ W.cell? ⟨b, 1, none⟩ = some y := ⟨h.at (i := 0) rfl, h.at (i := 1) rfl⟩
theorem Blk.five {W : World} {b : Nat} {x0 x1 x2 x3 x4 : Value} {t : TypeId} (h : Blk W b #[x0, x1, x2, x3, x4] t) : W.cell? ⟨b, 0, none⟩ = some x0 ∧ W.cell? ⟨b, 1, none⟩ = some x1 ∧ W.cell? ⟨b, 2, none⟩ = some x2 ∧ W.cell? ⟨b, 3, none⟩ = some x3 ∧ W.cell? ⟨b, 4, none⟩ = some x4 :=
  ⟨h.at (i := 0) rfl, h.at (i := 1) rfl, h.at (i := 2) rfl, h.at (i := 3) rfl, h.at (i := 4) rfl⟩
/-- Three blocks, just made. -/
theorem blk3 (w : World) (x y z : Array Value) (t u v : TypeId) : ∃ A, ((w.alloc (.cells x t)).alloc (.cells y u)).alloc (.cells z v) = A ∧ Blk A w.heap.size x t ∧ Blk A (w.heap.size + 1) y u ∧ Blk A (w.heap.size + 1 + 1) z v ∧ Below w.heap.size w A := by
  refine ⟨_, rfl, ((Blk.new w _ _).alloc _).alloc _, ?_, ?_, Below.alloc (Below.alloc (Below.alloc (Below.refl _ _) (Nat.le_refl _) _) (by simp) _) (by simp; omega) _⟩
  · refine Blk.alloc ?_ _; simpa using Blk.new (w.alloc (.cells x t)) y u
  · simpa using Blk.new ((w.alloc (.cells x t)).alloc (.cells y u)) z v
theorem blk2 (w : World) (x y : Array Value) (t u : TypeId) : ∃ A, (w.alloc (.cells x t)).alloc (.cells y u) = A ∧ Blk A w.heap.size x t ∧ Blk A (w.heap.size + 1) y u ∧ Below w.heap.size w A := by
  refine ⟨_, rfl, (Blk.new w _ _).alloc _, ?_, Below.alloc (Below.alloc (Below.refl _ _) (Nat.le_refl _) _) (by simp) _⟩
  simpa using Blk.new (w.alloc (.cells x t)) y u
theorem blk1 (w : World) (x : Array Value) (t : TypeId) : ∃ A, w.alloc (.cells x t) = A ∧ Blk A w.heap.size x t ∧ Below w.heap.size w A := ⟨_, rfl, Blk.new w _ _, (Below.refl _ _).alloc (Nat.le_refl _) _⟩
theorem results_c2 {P : Program} {fn : Func} {p s : Tmp} {ty : TypeId} (h : fn.results = #[.cell p ty, .tmp s]) (tmps : Array Value) (w : World) (g : Nat) (t : TypeId) (cs : Array Value) (fr : Nat × Nat) (d : TypeDesc) (u : Value)
    (hp : tmps.getD p undef = .pointer (some ⟨g, 0, none⟩)) (hs : tmps.getD s undef = u) (hg : w.heap[g]? = some (.cells cs t fr))
    (hu : P.underlying ty = some d) (hd : (match d with | .struct _ | .array _ _ => true | _ => false) = true) (hi : (P.info? ty).map (·.size) = some cs.size) :
    (results fn tmps).run P w = .ok (.tuple #[.agg cs, u]) w := by
  have hp' : tmps[p]?.getD undef = .pointer (some ⟨g, 0, none⟩) := by simpa using hp
  have hs' : tmps[s]?.getD undef = u := by simpa using hs
  simp [results, h, hp', hs', asAddr, run_loadVar_row w g t ty cs fr d hg hu hd hi]
theorem results_c3 {P : Program} {fn : Func} {p s r : Tmp} {ty : TypeId} (h : fn.results = #[.cell p ty, .tmp s, .tmp r]) (tmps : Array Value) (w : World) (g : Nat) (t : TypeId) (cs : Array Value) (fr : Nat × Nat) (d : TypeDesc) (u v : Value)
    (hp : tmps.getD p undef = .pointer (some ⟨g, 0, none⟩)) (hs : tmps.getD s undef = u) (hr : tmps.getD r undef = v) (hg : w.heap[g]? = some (.cells cs t fr))
    (hu : P.underlying ty = some d) (hd : (match d with | .struct _ | .array _ _ => true | _ => false) = true) (hi : (P.info? ty).map (·.size) = some cs.size) :
    (results fn tmps).run P w = .ok (.tuple #[.agg cs, u, v]) w := by
  have hp' : tmps[p]?.getD undef = .pointer (some ⟨g, 0, none⟩) := by simpa using hp
  have hs' : tmps[s]?.getD undef = u := by simpa using hs
  have hr' : tmps[r]?.getD undef = v := by simpa using hr
  simp [results, h, hp', hs', hr', asAddr, run_loadVar_row w g t ty cs fr d hg hu hd hi]
end Go.Proofs.Ytlhamckpgijjmaa
namespace Go.Proofs.Ytlhamckpgijjmaa
open Go.RowKit
set_option linter.unusedVariables false

def ints (l : List Int) : List Value := l.map (Value.int .i64)
theorem ints_len (l : List Int) : (ints l).length = l.length := by simp [ints]
theorem ints_append (l m : List Int) : ints l ++ ints m = ints (l ++ m) := by simp [ints]
theorem ints_one (l : List Int) : ∀ u ∈ ints l, u.oneCell' = true := ints_oneCell .i64 l
theorem ints_at (l : List Int) (j : Nat) : (ints l)[j]? = l[j]?.map (Value.int .i64) := by simp [ints]
theorem infoInt : (Try.prog.info? 3).map (fun i => (i.zero, i.size, i.bytes)) = some (some (.int .i64 0), 1, 8) := by kernel_rfl
theorem isl0 (w : World) : (Instr.buildSlice 31 0 #[]).run Try.prog w = .ok (.slice (some ⟨w.heap.size, 0, none⟩) 0 0) (w.alloc (.cells (ints []).toArray 3)) := by kernel_rfl
theorem isl1 (a : Int) (w : World) : (Instr.buildSlice 31 1 #[(0, .int .i64 a)]).run Try.prog w = .ok (.slice (some ⟨w.heap.size, 0, none⟩) 1 1) (w.alloc (.cells (ints [a]).toArray 3)) := by kernel_rfl
theorem isl2 (a b : Int) (w : World) : (Instr.buildSlice 31 2 #[(0, .int .i64 a), (1, .int .i64 b)]).run Try.prog w = .ok (.slice (some ⟨w.heap.size, 0, none⟩) 2 2) (w.alloc (.cells (ints [a, b]).toArray 3)) := by kernel_rfl
theorem isl3 (a b c : Int) (w : World) : (Instr.buildSlice 31 3 #[(0, .int .i64 a), (1, .int .i64 b), (2, .int .i64 c)]).run Try.prog w = .ok (.slice (some ⟨w.heap.size, 0, none⟩) 3 3) (w.alloc (.cells (ints [a, b, c]).toArray 3)) := by kernel_rfl
theorem isl10 (a b c d e f g h i j : Int) (w : World) : (Instr.buildSlice 31 10 #[(0, .int .i64 a), (1, .int .i64 b), (2, .int .i64 c), (3, .int .i64 d), (4, .int .i64 e), (5, .int .i64 f), (6, .int .i64 g), (7, .int .i64 h), (8, .int .i64 i), (9, .int .i64 j)]).run Try.prog w =
    .ok (.slice (some ⟨w.heap.size, 0, none⟩) 10 10) (w.alloc (.cells (ints [a, b, c, d, e, f, g, h, i, j]).toArray 3)) := by kernel_rfl
/-- An own row of numbers, just made. -/
theorem own_new (w : World) (xs : List Int) (n : Nat) (hn : xs.length = n) (hm : n ≤ maxLen) (base : Nat) (hb : base ≤ w.heap.size) : (w.alloc (.cells (ints xs).toArray 3)).ownsRow base 3 1 (.slice (some ⟨w.heap.size, 0, none⟩) n n) n (ints xs) := by
  refine ⟨by rw [ints_len, hn, Nat.mul_one], .inr ⟨w.heap.size, n, (ints xs).toArray, rfl, hb, ?_, Nat.le_refl _, hm, ?_, ?_⟩⟩
  · show (w.heap.push _)[w.heap.size]? = _; simp
  · simp [ints_len, hn]
  · rw [Nat.mul_one, ← hn, ← ints_len xs]; simp
section
variable {ops : Array Oper} {rest : List Oper} {o : Oper} {a : Act} {w : World} {Q : Exit → Act → World → Prop}
theorem bs_own (hw : Region.wanted o (yielded ops a.tmps) = true) {n : Nat} {parts : Array (Nat × Operand)} (ho : o.op = .buildSlice 31 n parts) (xs : List Int) {vs : Array (Nat × Value)} (hl : parts.map (fun (i, x) => (i, a.eval x)) = vs)
    (hrun : (Instr.buildSlice 31 n vs).run Try.prog w = .ok (.slice (some ⟨w.heap.size, 0, none⟩) n n) (w.alloc (.cells (ints xs).toArray 3))) (hn : xs.length = n) (hm : n ≤ maxLen)
    (h : ∀ W', W'.ownsRow w.heap.size 3 1 (.slice (some ⟨w.heap.size, 0, none⟩) n n) n (ints xs) → Below w.heap.size w W' → W'.heap.size = w.heap.size + 1 → wpList Try.prog ops Q rest (a.put o.dst (.slice (some ⟨w.heap.size, 0, none⟩) n n)) W') : wpList Try.prog ops Q (o :: rest) a w := by
  unfold wpList
  rw [if_pos hw]
  left
  unfold Oper.wp execOp
  simp only [ho, Sem.run_bind, hl, hrun, Result.andThen_ok]
  exact h _ (own_new w xs n hn hm _ (Nat.le_refl _)) ((Below.refl _ _).alloc (Nat.le_refl _) _) (by simp)
end
/-- The row of an own slice of numbers. -/
theorem own_irow {W : World} {base n : Nat} {v : Value} {l : List Int} (h : W.ownsRow base 3 1 v n (ints l)) :
    l.length = n ∧ ∃ q g cap, v = .slice q n cap ∧ (0 < n → q = some ⟨g, 0, none⟩) ∧ (0 < n → g < W.heap.size) ∧ (q = none → n = 0) ∧ n ≤ cap ∧ IRow W g 0 l := by
  have hlen : l.length = n := by have := h.1; rw [ints_len, Nat.mul_one] at this; exact this
  refine ⟨hlen, ?_⟩
  by_cases hv : v = .slice none 0 0
  · rcases h.2 with ⟨h2, h3⟩ | ⟨g, cap, cur, e, _⟩
    · subst h3
      exact ⟨none, 0, 0, h2, fun h => absurd h (by omega), fun h => absurd h (by omega), fun _ => rfl, Nat.le_refl _, fun j x hx => by rw [List.eq_nil_of_length_eq_zero hlen] at hx; simp at hx⟩
    · rw [e] at hv; cases hv
  · obtain ⟨g, cap, rfl, hb, hg, hnc, hcm, hc⟩ := own_cells h hv
    exact ⟨some ⟨g, 0, none⟩, g, cap, rfl, fun _ => rfl, fun _ => hg, fun e => (by cases e), hnc, fun j x hx => by rw [Nat.zero_add]; exact hc j _ (by rw [ints_at, hx]; rfl)⟩
theorem own_less {W : World} {base base' e size n : Nat} {v : Value} {xs : List Value} (h : W.ownsRow base e size v n xs) (hb : base' ≤ base) : W.ownsRow base' e size v n xs := by
  refine ⟨h.1, ?_⟩
  rcases h.2 with h2 | ⟨g, cap, cur, h1, h2, h3⟩
  · exact .inl h2
  · exact .inr ⟨g, cap, cur, h1, by omega, h3⟩
theorem own_src {W : World} {g n cap : Nat} {l : List Value} {base e : Nat} (h : W.ownsRow base e 1 (.slice (some ⟨g, 0, none⟩) n cap) n l) : ∀ ad, some (⟨g, 0, none⟩ : Addr) = some ad → ∀ j u, l[j]? = some u → W.cell? (ad.add j) = some u := by
  intro ad had j u hu
  cases had
  obtain ⟨g', cap', e, _, _, _, _, hc⟩ := own_cells h (by simp)
  cases e
  rw [Addr.add_mid, Nat.zero_add]
  exact hc j u hu
end Go.Proofs.Ytlhamckpgijjmaa
namespace Go.Proofs.Ytlhamckpgijjmaa
open Go.RowKit
set_option linter.unusedVariables false

section
variable {P : Program} {ops : Array Oper} {rest : List Oper} {o : Oper} {a : Act} {w : World} {Q : Exit → Act → World → Prop}
theorem below_grown {A w w' : World} (hA : Below A.heap.size A w) (h : w.grownBy w' none) : Below A.heap.size A w' := hA.grown h hA.size (fun r hr => by cases hr)
theorem mk_own (A : World) (hw : Region.wanted o (yielded ops a.tmps) = true) {t : TypeId} {x y : Operand} (ho : o.op = .makeSlice t x y)
    {e : TypeId} {z : Value} {size bytes : Nat} (ht : P.underlying t = some (.slice e)) (hinf : (P.info? e).map (fun i => (i.zero, i.size, i.bytes)) = some (some z, size, bytes))
    {c : Nat} {C : Int} (hx : a.eval x = .int .i64 0) (hy : a.eval y = .int .i64 C) (hC : C = (c : Int)) (hb : bytes * c ≤ 281474976710656) (h63 : c ≤ maxLen) (hA : Below A.heap.size A w)
    (h : ∀ v w', w'.ownsRow A.heap.size e size v 0 [] → v ≠ .slice none 0 0 → Below A.heap.size A w' → Below w.heap.size w w' → wpList P ops Q rest (a.put o.dst v) w') : wpList P ops Q (o :: rest) a w := by
  subst hC
  obtain ⟨i, hi, hz0, hz1, hz2⟩ := info_parts hinf
  obtain ⟨w', hr, ho', hg⟩ := run_make_own (P := P) w A.heap.size t e i z size ht hi hz0 hz1 .i64 .i64 c (by rw [hz2]; exact hb) h63 hA.size
  unfold wpList
  rw [if_pos hw]
  left
  unfold Oper.wp execOp
  simp only [ho, Sem.run_bind, hx, hy, hr, Result.andThen_ok]
  exact h _ _ ho' (by simp) (below_grown hA hg) (below_grown (Below.refl _ _) hg)
end

/-- Numbers in threes, as a row's cells. -/
def flat3 (L : List (Int × Int × Int)) : List Value := L.flatMap fun x => [.int .i64 x.1, .int .i64 x.2.1, .int .i64 x.2.2]
theorem flat3_len (L : List (Int × Int × Int)) : (flat3 L).length = L.length * 3 := by
  induction L with
  | nil => rfl
  | cons x r ih => simp only [flat3, List.flatMap_cons, List.length_append, List.length_cons, List.length_nil] at *; omega
theorem flat3_append (L M : List (Int × Int × Int)) : flat3 (L ++ M) = flat3 L ++ flat3 M := by simp [flat3]
theorem flat3_at (L : List (Int × Int × Int)) : ∀ (j : Nat) (x : Int × Int × Int), L[j]? = some x → (flat3 L)[j * 3]? = some (.int .i64 x.1) ∧ (flat3 L)[j * 3 + 1]? = some (.int .i64 x.2.1) ∧ (flat3 L)[j * 3 + 2]? = some (.int .i64 x.2.2) := by
  induction L with
  | nil => intro j x h; simp at h
  | cons y r ih =>
    intro j x h
    cases j with
    | zero => simp at h; subst h; simp [flat3]
    | succ j =>
      obtain ⟨h1, h2, h3⟩ := ih j x (by simpa using h)
      have e : flat3 (y :: r) = [.int .i64 y.1, .int .i64 y.2.1, .int .i64 y.2.2] ++ flat3 r := by simp [flat3]
      rw [e]
      refine ⟨?_, ?_, ?_⟩
      · rw [List.getElem?_append_right (by simp; omega)]; simpa [Nat.add_mul] using h1
      · rw [List.getElem?_append_right (by simp; omega), show (j + 1) * 3 + 1 - [Value.int .i64 y.1, .int .i64 y.2.1, .int .i64 y.2.2].length = j * 3 + 1 by simp; omega]; exact h2
      · rw [List.getElem?_append_right (by simp; omega), show (j + 1) * 3 + 2 - [Value.int .i64 y.1, .int .i64 y.2.1, .int .i64 y.2.2].length = j * 3 + 2 by simp; omega]; exact h3
theorem flat3_one (L : List (Int × Int × Int)) : ∀ u ∈ flat3 L, u.oneCell' = true := by
  intro u hu
  obtain ⟨x, _, hx⟩ := List.mem_flatMap.1 hu
  simp at hx
  rcases hx with rfl | rfl | rfl <;> rfl
/-- A row of threes in memory. -/
def Row3 (W : World) (g off : Nat) (L : List (Int × Int × Int)) : Prop := ∀ j x, L[j]? = some x →
  W.cell? ⟨g, off + j * 3, none⟩ = some (.int .i64 x.1) ∧ W.cell? ⟨g, off + j * 3 + 1, none⟩ = some (.int .i64 x.2.1) ∧ W.cell? ⟨g, off + j * 3 + 2, none⟩ = some (.int .i64 x.2.2)
theorem row3_keep {W W' : World} {g off : Nat} {L : List (Int × Int × Int)} (h : Row3 W g off L) (hg : 0 < L.length → g < W.heap.size) (hb : Below W.heap.size W W') : Row3 W' g off L := by
  intro j x hx
  have hlt := hg (by have := (List.getElem?_eq_some_iff.1 hx).1; omega)
  obtain ⟨h1, h2, h3⟩ := h j x hx
  exact ⟨(hb.cell (p := ⟨g, _, none⟩) hlt).trans h1, (hb.cell (p := ⟨g, _, none⟩) hlt).trans h2, (hb.cell (p := ⟨g, _, none⟩) hlt).trans h3⟩
/-- Numbers in twos, as a row's cells. -/
def flat2 (L : List (Int × Int)) : List Value := L.flatMap fun x => [.int .i64 x.1, .int .i64 x.2]
theorem flat2_len (L : List (Int × Int)) : (flat2 L).length = L.length * 2 := by
  induction L with
  | nil => rfl
  | cons x r ih => simp only [flat2, List.flatMap_cons, List.length_append, List.length_cons, List.length_nil] at *; omega
theorem flat2_append (L M : List (Int × Int)) : flat2 (L ++ M) = flat2 L ++ flat2 M := by simp [flat2]
theorem flat2_cons (y : Int × Int) (r : List (Int × Int)) : flat2 (y :: r) = [.int .i64 y.1, .int .i64 y.2] ++ flat2 r := by simp [flat2]
theorem flat2_at (L : List (Int × Int)) : ∀ (j : Nat) (x : Int × Int), L[j]? = some x → (flat2 L)[j * 2]? = some (.int .i64 x.1) ∧ (flat2 L)[j * 2 + 1]? = some (.int .i64 x.2) := by
  induction L with
  | nil => intro j x h; simp at h
  | cons y r ih =>
    intro j x h
    cases j with
    | zero => simp at h; subst h; simp [flat2]
    | succ j =>
      obtain ⟨h1, h2⟩ := ih j x (by simpa using h)
      rw [flat2_cons]
      refine ⟨?_, ?_⟩
      · rw [List.getElem?_append_right (by simp; omega)]; simpa [Nat.add_mul] using h1
      · rw [List.getElem?_append_right (by simp; omega), show (j + 1) * 2 + 1 - [Value.int .i64 y.1, .int .i64 y.2].length = j * 2 + 1 by simp; omega]; exact h2
theorem flat2_one (L : List (Int × Int)) : ∀ u ∈ flat2 L, u.oneCell' = true := by
  intro u hu
  obtain ⟨x, _, hx⟩ := List.mem_flatMap.1 hu
  simp at hx
  rcases hx with rfl | rfl <;> rfl
/-- A row of twos in memory. -/
def Row2 (W : World) (g off : Nat) (L : List (Int × Int)) : Prop := ∀ j x, L[j]? = some x → W.cell? ⟨g, off + j * 2, none⟩ = some (.int .i64 x.1) ∧ W.cell? ⟨g, off + j * 2 + 1, none⟩ = some (.int .i64 x.2)
theorem row2_keep {W W' : World} {g off : Nat} {L : List (Int × Int)} (h : Row2 W g off L) (hg : 0 < L.length → g < W.heap.size) (hb : Below W.heap.size W W') : Row2 W' g off L := by
  intro j x hx
  have hlt := hg (by have := (List.getElem?_eq_some_iff.1 hx).1; omega)
  obtain ⟨h1, h2⟩ := h j x hx
  exact ⟨(hb.cell (p := ⟨g, _, none⟩) hlt).trans h1, (hb.cell (p := ⟨g, _, none⟩) hlt).trans h2⟩

/-- What an own slice is, and where its cells lie. -/
theorem own_open {W : World} {base e size n : Nat} {v : Value} {xs : List Value} (h : W.ownsRow base e size v n xs) (hs : 0 < size) :
    xs.length = n * size ∧ ∃ q g cap, v = .slice q n cap ∧ (0 < n → q = some ⟨g, 0, none⟩) ∧ (0 < n → g < W.heap.size) ∧ (0 < n → base ≤ g) ∧ (q = none → n = 0) ∧ n ≤ cap ∧ cap ≤ maxLen ∧ (∀ j u, xs[j]? = some u → W.cell? ⟨g, j, none⟩ = some u) ∧ (v ≠ .slice none 0 0 → q = some ⟨g, 0, none⟩ ∧ base ≤ g ∧ g < W.heap.size) := by
  refine ⟨h.1, ?_⟩
  by_cases hv : v = .slice none 0 0
  · rcases h.2 with ⟨h2, h3⟩ | ⟨g, cap, cur, e, _⟩
    · subst h3
      refine ⟨none, 0, 0, h2, fun h => absurd h (by omega), fun h => absurd h (by omega), fun h => absurd h (by omega), fun _ => rfl, Nat.le_refl _, by unfold maxLen; omega, fun j u hu => ?_, fun h => absurd h2 h⟩
      have hx : xs = [] := List.eq_nil_of_length_eq_zero (by rw [h.1]; omega)
      rw [hx] at hu; simp at hu
    · rw [e] at hv; cases hv
  · obtain ⟨g, cap, rfl, hb, hg, hnc, hcm, hc⟩ := own_cells h hv
    exact ⟨some ⟨g, 0, none⟩, g, cap, rfl, fun _ => rfl, fun _ => hg, fun _ => hb, fun e => (by cases e), hnc, hcm, hc, fun _ => ⟨rfl, hb, hg⟩⟩
/-- The row of an own slice of threes. -/
theorem own_row3 {W : World} {base e n : Nat} {v : Value} {L : List (Int × Int × Int)} (h : W.ownsRow base e 3 v n (flat3 L)) :
    L.length = n ∧ ∃ q g cap, v = .slice q n cap ∧ (0 < n → q = some ⟨g, 0, none⟩) ∧ (0 < n → g < W.heap.size) ∧ (0 < n → base ≤ g) ∧ (q = none → n = 0) ∧ n ≤ cap ∧ cap ≤ maxLen ∧ Row3 W g 0 L ∧ (v ≠ .slice none 0 0 → q = some ⟨g, 0, none⟩ ∧ base ≤ g ∧ g < W.heap.size) := by
  obtain ⟨h1, q, g, cap, h2, h3, h4, h5, h6, h7, h8, hc, h9⟩ := own_open h (by omega)
  rw [flat3_len] at h1
  refine ⟨by omega, q, g, cap, h2, h3, h4, h5, h6, h7, h8, fun j x hx => ?_, h9⟩
  obtain ⟨e1, e2, e3⟩ := flat3_at L j x hx
  rw [Nat.zero_add]
  exact ⟨hc _ _ e1, hc _ _ e2, hc _ _ e3⟩
/-- The row of an own slice of twos. -/
theorem own_row2 {W : World} {base e n : Nat} {v : Value} {L : List (Int × Int)} (h : W.ownsRow base e 2 v n (flat2 L)) :
    L.length = n ∧ ∃ q g cap, v = .slice q n cap ∧ (0 < n → q = some ⟨g, 0, none⟩) ∧ (0 < n → g < W.heap.size) ∧ (0 < n → base ≤ g) ∧ (q = none → n = 0) ∧ n ≤ cap ∧ cap ≤ maxLen ∧ Row2 W g 0 L ∧ (v ≠ .slice none 0 0 → q = some ⟨g, 0, none⟩ ∧ base ≤ g ∧ g < W.heap.size) := by
  obtain ⟨h1, q, g, cap, h2, h3, h4, h5, h6, h7, h8, hc, h9⟩ := own_open h (by omega)
  rw [flat2_len] at h1
  refine ⟨by omega, q, g, cap, h2, h3, h4, h5, h6, h7, h8, fun j x hx => ?_, h9⟩
  obtain ⟨e1, e2⟩ := flat2_at L j x hx
  rw [Nat.zero_add]
  exact ⟨hc _ _ e1, hc _ _ e2⟩
end Go.Proofs.Ytlhamckpgijjmaa
