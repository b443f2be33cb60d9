/-
  'make' of an empty slice of the call's own, at one operation; rows of three and of two numbers. Nothing here names the program.
-/
import Derived.Test.YtfnageillhpjpaaPk06
import Derived.Test.YtfnageillhpjpaaPk05
import Derived.Laws.MakeOwn
import Derived.Laws.OwnMore
namespace Go.Proofs.Ytfnageillhpjpaa
set_option maxRecDepth 100000
open Go.RowKit
set_option linter.unusedVariables false

section
variable {P : Program} {ops : Array Oper} {rest : List Oper} {o : Oper} {a : Act} {w : World} {Q : Exit → Act → World → Prop}
theorem below_grown {A w w' : World} (hA : Below A.heap.size A w) (h : w.grownBy w' none) : Below A.heap.size A w' := hA.grown h hA.size (fun r hr => by cases hr)
theorem mk_own (A : World) (hw : Region.wanted o (yielded ops a.tmps) = true) {t : TypeId} {x y : Operand} (ho : o.op = .makeSlice t x y)
    {e : TypeId} {z : Value} {size bytes : Nat} (ht : P.underlying t = some (.slice e)) (hinf : (P.info? e).map (fun i => (i.zero, i.size, i.bytes)) = some (some z, size, bytes))
    {c : Nat} {C : Int} (hx : a.eval x = .int .i64 0) (hy : a.eval y = .int .i64 C) (hC : C = (c : Int)) (hb : bytes * c ≤ 281474976710656) (h63 : c ≤ maxLen) (hA : Below A.heap.size A w)
    (h : ∀ v w', w'.ownsRow A.heap.size e size v 0 [] → v ≠ .slice none 0 0 → Below A.heap.size A w' → Below w.heap.size w w' → wpList P ops Q rest (a.put o.dst v) w') : wpList P ops Q (o :: rest) a w := by
  subst hC
  obtain ⟨i, hi, hz0, hz1, hz2⟩ := info_parts hinf
  obtain ⟨w', hr, ho', hg⟩ := run_make_own (P := P) w A.heap.size t e i z size ht hi hz0 hz1 .i64 .i64 c (by rw [hz2]; exact hb) h63 hA.size
  unfold wpList
  rw [if_pos hw]
  left
  unfold Oper.wp execOp
  simp only [ho, Sem.run_bind, hx, hy, hr, Result.andThen_ok]
  exact h _ _ ho' (by simp) (below_grown hA hg) (below_grown (Below.refl _ _) hg)
end

/-- Numbers in threes, as a row's cells. -/
def flat3 (L : List (Int × Int × Int)) : List Value := L.flatMap fun x => [.int .i64 x.1, .int .i64 x.2.1, .int .i64 x.2.2]
theorem flat3_len (L : List (Int × Int × Int)) : (flat3 L).length = L.length * 3 := by
  induction L with
  | nil => rfl
  | cons x r ih => simp only [flat3, List.flatMap_cons, List.length_append, List.length_cons, List.length_nil] at *; omega
theorem flat3_append (L M : List (Int × Int × Int)) : flat3 (L ++ M) = flat3 L ++ flat3 M := by simp [flat3]
theorem flat3_at (L : List (Int × Int × Int)) : ∀ (j : Nat) (x : Int × Int × Int), L[j]? = some x → (flat3 L)[j * 3]? = some (.int .i64 x.1) ∧ (flat3 L)[j * 3 + 1]? = some (.int .i64 x.2.1) ∧ (flat3 L)[j * 3 + 2]? = some (.int .i64 x.2.2) := by
  induction L with
  | nil => intro j x h; simp at h
  | cons y r ih =>
    intro j x h
    cases j with
    | zero => simp at h; subst h; simp [flat3]
    | succ j =>
      obtain ⟨h1, h2, h3⟩ := ih j x (by simpa using h)
      have e : flat3 (y :: r) = [.int .i64 y.1, .int .i64 y.2.1, .int .i64 y.2.2] ++ flat3 r := by simp [flat3]
      rw [e]
      refine ⟨?_, ?_, ?_⟩
      · rw [List.getElem?_append_right (by simp; omega)]; simpa [Nat.add_mul] using h1
      · rw [List.getElem?_append_right (by simp; omega), show (j + 1) * 3 + 1 - [Value.int .i64 y.1, .int .i64 y.2.1, .int .i64 y.2.2].length = j * 3 + 1 by simp; omega]; exact h2
      · rw [List.getElem?_append_right (by simp; omega), show (j + 1) * 3 + 2 - [Value.int .i64 y.1, .int .i64 y.2.1, .int .i64 y.2.2].length = j * 3 + 2 by simp; omega]; exact h3
theorem flat3_one (L : List (Int × Int × Int)) : ∀ u ∈ flat3 L, u.oneCell' = true := by
  intro u hu
  obtain ⟨x, _, hx⟩ := List.mem_flatMap.1 hu
  simp at hx
  rcases hx with rfl | rfl | rfl <;> rfl
/-- A row of threes in memory. -/
def Row3 (W : World) (g off : Nat) (L : List (Int × Int × Int)) : Prop := ∀ j x, L[j]? = some x →
  W.cell? ⟨g, off + j * 3, none⟩ = some (.int .i64 x.1) ∧ W.cell? ⟨g, off + j * 3 + 1, none⟩ = some (.int .i64 x.2.1) ∧ W.cell? ⟨g, off + j * 3 + 2, none⟩ = some (.int .i64 x.2.2)
theorem row3_keep {W W' : World} {g off : Nat} {L : List (Int × Int × Int)} (h : Row3 W g off L) (hg : 0 < L.length → g < W.heap.size) (hb : Below W.heap.size W W') : Row3 W' g off L := by
  intro j x hx
  have hlt := hg (by have := (List.getElem?_eq_some_iff.1 hx).1; omega)
  obtain ⟨h1, h2, h3⟩ := h j x hx
  exact ⟨(hb.cell (p := ⟨g, _, none⟩) hlt).trans h1, (hb.cell (p := ⟨g, _, none⟩) hlt).trans h2, (hb.cell (p := ⟨g, _, none⟩) hlt).trans h3⟩
/-- Numbers in twos, as a row's cells. -/
def flat2 (L : List (Int × Int)) : List Value := L.flatMap fun x => [.int .i64 x.1, .int .i64 x.2]
theorem flat2_len (L : List (Int × Int)) : (flat2 L).length = L.length * 2 := by
  induction L with
  | nil => rfl
  | cons x r ih => simp only [flat2, List.flatMap_cons, List.length_append, List.length_cons, List.length_nil] at *; omega
theorem flat2_append (L M : List (Int × Int)) : flat2 (L ++ M) = flat2 L ++ flat2 M := by simp [flat2]
theorem flat2_cons (y : Int × Int) (r : List (Int × Int)) : flat2 (y :: r) = [.int .i64 y.1, .int .i64 y.2] ++ flat2 r := by simp [flat2]
theorem flat2_at (L : List (Int × Int)) : ∀ (j : Nat) (x : Int × Int), L[j]? = some x → (flat2 L)[j * 2]? = some (.int .i64 x.1) ∧ (flat2 L)[j * 2 + 1]? = some (.int .i64 x.2) := by
  induction L with
  | nil => intro j x h; simp at h
  | cons y r ih =>
    intro j x h
    cases j with
    | zero => simp at h; subst h; simp [flat2]
    | succ j =>
      obtain ⟨h1, h2⟩ := ih j x (by simpa using h)
      rw [flat2_cons]
      refine ⟨?_, ?_⟩
      · rw [List.getElem?_append_right (by simp; omega)]; simpa [Nat.add_mul] using h1
      · rw [List.getElem?_append_right (by simp; omega), show (j + 1) * 2 + 1 - [Value.int .i64 y.1, .int .i64 y.2].length = j * 2 + 1 by simp; omega]; exact h2
theorem flat2_one (L : List (Int × Int)) : ∀ u ∈ flat2 L, u.oneCell' = true := by
  intro u hu
  obtain ⟨x, _, hx⟩ := List.mem_flatMap.1 hu
  simp at hx
  rcases hx with rfl | rfl <;> rfl
/-- A row of twos in memory. -/
def Row2 (W : World) (g off : Nat) (L : List (Int × Int)) : Prop := ∀ j x, L[j]? = some x → W.cell? ⟨g, off + j * 2, none⟩ = some (.int .i64 x.1) ∧ W.cell? ⟨g, off + j * 2 + 1, none⟩ = some (.int .i64 x.2)
theorem row2_keep {W W' : World} {g off : Nat} {L : List (Int × Int)} (h : Row2 W g off L) (hg : 0 < L.length → g < W.heap.size) (hb : Below W.heap.size W W') : Row2 W' g off L := by
  intro j x hx
  have hlt := hg (by have := (List.getElem?_eq_some_iff.1 hx).1; omega)
  obtain ⟨h1, h2⟩ := h j x hx
  exact ⟨(hb.cell (p := ⟨g, _, none⟩) hlt).trans h1, (hb.cell (p := ⟨g, _, none⟩) hlt).trans h2⟩

/-- What an own slice is, and where its cells lie. -/
theorem own_open {W : World} {base e size n : Nat} {v : Value} {xs : List Value} (h : W.ownsRow base e size v n xs) (hs : 0 < size) :
    xs.length = n * size ∧ ∃ q g cap, v = .slice q n cap ∧ (0 < n → q = some ⟨g, 0, none⟩) ∧ (0 < n → g < W.heap.size) ∧ (0 < n → base ≤ g) ∧ (q = none → n = 0) ∧ n ≤ cap ∧ cap ≤ maxLen ∧ (∀ j u, xs[j]? = some u → W.cell? ⟨g, j, none⟩ = some u) ∧ (v ≠ .slice none 0 0 → q = some ⟨g, 0, none⟩ ∧ base ≤ g ∧ g < W.heap.size) := by
  refine ⟨h.1, ?_⟩
  by_cases hv : v = .slice none 0 0
  · rcases h.2 with ⟨h2, h3⟩ | ⟨g, cap, cur, e, _⟩
    · subst h3
      refine ⟨none, 0, 0, h2, fun h => absurd h (by omega), fun h => absurd h (by omega), fun h => absurd h (by omega), fun _ => rfl, Nat.le_refl _, by unfold maxLen; omega, fun j u hu => ?_, fun h => absurd h2 h⟩
      have hx : xs = [] := List.eq_nil_of_length_eq_zero (by rw [h.1]; omega)
      rw [hx] at hu; simp at hu
    · rw [e] at hv; cases hv
  · obtain ⟨g, cap, rfl, hb, hg, hnc, hcm, hc⟩ := own_cells h hv
    exact ⟨some ⟨g, 0, none⟩, g, cap, rfl, fun _ => rfl, fun _ => hg, fun _ => hb, fun e => (by cases e), hnc, hcm, hc, fun _ => ⟨rfl, hb, hg⟩⟩
/-- The row of an own slice of threes. -/
theorem own_row3 {W : World} {base e n : Nat} {v : Value} {L : List (Int × Int × Int)} (h : W.ownsRow base e 3 v n (flat3 L)) :
    L.length = n ∧ ∃ q g cap, v = .slice q n cap ∧ (0 < n → q = some ⟨g, 0, none⟩) ∧ (0 < n → g < W.heap.size) ∧ (0 < n → base ≤ g) ∧ (q = none → n = 0) ∧ n ≤ cap ∧ cap ≤ maxLen ∧ Row3 W g 0 L ∧ (v ≠ .slice none 0 0 → q = some ⟨g, 0, none⟩ ∧ base ≤ g ∧ g < W.heap.size) := by
  obtain ⟨h1, q, g, cap, h2, h3, h4, h5, h6, h7, h8, hc, h9⟩ := own_open h (by omega)
  rw [flat3_len] at h1
  refine ⟨by omega, q, g, cap, h2, h3, h4, h5, h6, h7, h8, fun j x hx => ?_, h9⟩
  obtain ⟨e1, e2, e3⟩ := flat3_at L j x hx
  rw [Nat.zero_add]
  exact ⟨hc _ _ e1, hc _ _ e2, hc _ _ e3⟩
/-- The row of an own slice of twos. -/
theorem own_row2 {W : World} {base e n : Nat} {v : Value} {L : List (Int × Int)} (h : W.ownsRow base e 2 v n (flat2 L)) :
    L.length = n ∧ ∃ q g cap, v = .slice q n cap ∧ (0 < n → q = some ⟨g, 0, none⟩) ∧ (0 < n → g < W.heap.size) ∧ (0 < n → base ≤ g) ∧ (q = none → n = 0) ∧ n ≤ cap ∧ cap ≤ maxLen ∧ Row2 W g 0 L ∧ (v ≠ .slice none 0 0 → q = some ⟨g, 0, none⟩ ∧ base ≤ g ∧ g < W.heap.size) := by
  obtain ⟨h1, q, g, cap, h2, h3, h4, h5, h6, h7, h8, hc, h9⟩ := own_open h (by omega)
  rw [flat2_len] at h1
  refine ⟨by omega, q, g, cap, h2, h3, h4, h5, h6, h7, h8, fun j x hx => ?_, h9⟩
  obtain ⟨e1, e2⟩ := flat2_at L j x hx
  rw [Nat.zero_add]
  exact ⟨hc _ _ e1, hc _ _ e2⟩
end Go.Proofs.Ytfnageillhpjpaa
