/-
  Slices of numbers that the call makes.
-/
import Derived.Test.YtfnageillhpjpaaPk18
import Derived.Test.YtfnageillhpjpaaPk05
namespace Go.Proofs.Ytfnageillhpjpaa
set_option maxRecDepth 100000
open Go.RowKit
set_option linter.unusedVariables false

def ints (l : List Int) : List Value := l.map (Value.int .i64)
theorem ints_len (l : List Int) : (ints l).length = l.length := by simp [ints]
theorem ints_append (l m : List Int) : ints l ++ ints m = ints (l ++ m) := by simp [ints]
theorem ints_one (l : List Int) : ∀ u ∈ ints l, u.oneCell' = true := ints_oneCell .i64 l
theorem ints_at (l : List Int) (j : Nat) : (ints l)[j]? = l[j]?.map (Value.int .i64) := by simp [ints]
theorem infoInt : (Try.prog.info? 3).map (fun i => (i.zero, i.size, i.bytes)) = some (some (.int .i64 0), 1, 8) := by kernel_rfl
theorem isl0 (w : World) : (Instr.buildSlice 23 0 #[]).run Try.prog w = .ok (.slice (some ⟨w.heap.size, 0, none⟩) 0 0) (w.alloc (.cells (ints []).toArray 3)) := by kernel_rfl
theorem isl1 (a : Int) (w : World) : (Instr.buildSlice 23 1 #[(0, .int .i64 a)]).run Try.prog w = .ok (.slice (some ⟨w.heap.size, 0, none⟩) 1 1) (w.alloc (.cells (ints [a]).toArray 3)) := by kernel_rfl
theorem isl2 (a b : Int) (w : World) : (Instr.buildSlice 23 2 #[(0, .int .i64 a), (1, .int .i64 b)]).run Try.prog w = .ok (.slice (some ⟨w.heap.size, 0, none⟩) 2 2) (w.alloc (.cells (ints [a, b]).toArray 3)) := by kernel_rfl
theorem isl3 (a b c : Int) (w : World) : (Instr.buildSlice 23 3 #[(0, .int .i64 a), (1, .int .i64 b), (2, .int .i64 c)]).run Try.prog w = .ok (.slice (some ⟨w.heap.size, 0, none⟩) 3 3) (w.alloc (.cells (ints [a, b, c]).toArray 3)) := by kernel_rfl
theorem isl10 (a b c d e f g h i j : Int) (w : World) : (Instr.buildSlice 23 10 #[(0, .int .i64 a), (1, .int .i64 b), (2, .int .i64 c), (3, .int .i64 d), (4, .int .i64 e), (5, .int .i64 f), (6, .int .i64 g), (7, .int .i64 h), (8, .int .i64 i), (9, .int .i64 j)]).run Try.prog w =
    .ok (.slice (some ⟨w.heap.size, 0, none⟩) 10 10) (w.alloc (.cells (ints [a, b, c, d, e, f, g, h, i, j]).toArray 3)) := by kernel_rfl
/-- An own row of numbers, just made. -/
theorem own_new (w : World) (xs : List Int) (n : Nat) (hn : xs.length = n) (hm : n ≤ maxLen) (base : Nat) (hb : base ≤ w.heap.size) : (w.alloc (.cells (ints xs).toArray 3)).ownsRow base 3 1 (.slice (some ⟨w.heap.size, 0, none⟩) n n) n (ints xs) := by
  refine ⟨by rw [ints_len, hn, Nat.mul_one], .inr ⟨w.heap.size, n, (ints xs).toArray, rfl, hb, ?_, Nat.le_refl _, hm, ?_, ?_⟩⟩
  · show (w.heap.push _)[w.heap.size]? = _; simp
  · simp [ints_len, hn]
  · rw [Nat.mul_one, ← hn, ← ints_len xs]; simp
section
variable {ops : Array Oper} {rest : List Oper} {o : Oper} {a : Act} {w : World} {Q : Exit → Act → World → Prop}
theorem bs_own (hw : Region.wanted o (yielded ops a.tmps) = true) {n : Nat} {parts : Array (Nat × Operand)} (ho : o.op = .buildSlice 23 n parts) (xs : List Int) {vs : Array (Nat × Value)} (hl : parts.map (fun (i, x) => (i, a.eval x)) = vs)
    (hrun : (Instr.buildSlice 23 n vs).run Try.prog w = .ok (.slice (some ⟨w.heap.size, 0, none⟩) n n) (w.alloc (.cells (ints xs).toArray 3))) (hn : xs.length = n) (hm : n ≤ maxLen)
    (h : ∀ W', W'.ownsRow w.heap.size 3 1 (.slice (some ⟨w.heap.size, 0, none⟩) n n) n (ints xs) → Below w.heap.size w W' → W'.heap.size = w.heap.size + 1 → wpList Try.prog ops Q rest (a.put o.dst (.slice (some ⟨w.heap.size, 0, none⟩) n n)) W') : wpList Try.prog ops Q (o :: rest) a w := by
  unfold wpList
  rw [if_pos hw]
  left
  unfold Oper.wp execOp
  simp only [ho, Sem.run_bind, hl, hrun, Result.andThen_ok]
  exact h _ (own_new w xs n hn hm _ (Nat.le_refl _)) ((Below.refl _ _).alloc (Nat.le_refl _) _) (by simp)
end
/-- The row of an own slice of numbers. -/
theorem own_irow {W : World} {base n : Nat} {v : Value} {l : List Int} (h : W.ownsRow base 3 1 v n (ints l)) :
    l.length = n ∧ ∃ q g cap, v = .slice q n cap ∧ (0 < n → q = some ⟨g, 0, none⟩) ∧ (0 < n → g < W.heap.size) ∧ (q = none → n = 0) ∧ n ≤ cap ∧ IRow W g 0 l := by
  have hlen : l.length = n := by have := h.1; rw [ints_len, Nat.mul_one] at this; exact this
  refine ⟨hlen, ?_⟩
  by_cases hv : v = .slice none 0 0
  · rcases h.2 with ⟨h2, h3⟩ | ⟨g, cap, cur, e, _⟩
    · subst h3
      exact ⟨none, 0, 0, h2, fun h => absurd h (by omega), fun h => absurd h (by omega), fun _ => rfl, Nat.le_refl _, fun j x hx => by rw [List.eq_nil_of_length_eq_zero hlen] at hx; simp at hx⟩
    · rw [e] at hv; cases hv
  · obtain ⟨g, cap, rfl, hb, hg, hnc, hcm, hc⟩ := own_cells h hv
    exact ⟨some ⟨g, 0, none⟩, g, cap, rfl, fun _ => rfl, fun _ => hg, fun e => (by cases e), hnc, fun j x hx => by rw [Nat.zero_add]; exact hc j _ (by rw [ints_at, hx]; rfl)⟩
theorem own_less {W : World} {base base' e size n : Nat} {v : Value} {xs : List Value} (h : W.ownsRow base e size v n xs) (hb : base' ≤ base) : W.ownsRow base' e size v n xs := by
  refine ⟨h.1, ?_⟩
  rcases h.2 with h2 | ⟨g, cap, cur, h1, h2, h3⟩
  · exact .inl h2
  · exact .inr ⟨g, cap, cur, h1, by omega, h3⟩
theorem own_src {W : World} {g n cap : Nat} {l : List Value} {base e : Nat} (h : W.ownsRow base e 1 (.slice (some ⟨g, 0, none⟩) n cap) n l) : ∀ ad, some (⟨g, 0, none⟩ : Addr) = some ad → ∀ j u, l[j]? = some u → W.cell? (ad.add j) = some u := by
  intro ad had j u hu
  cases had
  obtain ⟨g', cap', e, _, _, _, _, hc⟩ := own_cells h (by simp)
  cases e
  rw [Addr.add_mid, Nat.zero_add]
  exact hc j u hu
end Go.Proofs.Ytfnageillhpjpaa
