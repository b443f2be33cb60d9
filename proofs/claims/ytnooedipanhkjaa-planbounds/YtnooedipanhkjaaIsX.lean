/-
  Parts of slices of numbers, at one operation.
-/
import Derived.Test.YtnooedipanhkjaaFrI
import Derived.Test.YtnooedipanhkjaaSlc
namespace Go.Proofs.Ytnooedipanhkjaa
set_option maxRecDepth 100000
open Go.RowKit
set_option linter.unusedVariables false

theorem irow_take2 {W : World} {g off : Nat} {l : List Int} (h : IRow W g off l) (k : Nat) : IRow W g off (l.take k) := by
  intro j x hx
  have hj := (List.getElem?_eq_some_iff.1 hx).1
  rw [List.length_take] at hj
  rw [List.getElem?_take_of_lt (by omega)] at hx
  exact h j x hx
theorem irow_drop2 {W : World} {g off : Nat} {l : List Int} (h : IRow W g off l) (k : Nat) : IRow W g (off + k) (l.drop k) := by
  intro j x hx
  rw [List.getElem?_drop] at hx
  have := h (k + j) x hx
  rwa [← Nat.add_assoc] at this
theorem Is.len {W : World} {q : Option Addr} {n cap : Nat} {l : List Int} (h : Is W (.slice q n cap) l) : l.length = n ∧ n ≤ cap ∧ cap ≤ 9223372036854775807 := by
  obtain ⟨q', cap', g, off, e, h1, h2, _⟩ := h
  cases e
  exact ⟨rfl, h1, h2⟩
theorem Is.nil (W : World) : Is W (.slice none 0 0) [] := ⟨none, 0, 0, 0, rfl, Nat.le_refl _, by omega, fun h => absurd h (by simp), fun h => absurd h (by simp), fun j x h => by simp at h⟩
theorem Is.form {W : World} {v : Value} {l : List Int} (h : Is W v l) : ∃ q cap, v = .slice q l.length cap := by
  obtain ⟨q, cap, g, off, e, _⟩ := h
  exact ⟨q, cap, e⟩
/-- A part of a slice of numbers. -/
theorem Is.sub {W : World} {q : Option Addr} {n cap : Nat} {l : List Int} (h : Is W (.slice q n cap) l) {i j sc : Nat} {v : Value} (hij : i ≤ j) (hjn : j ≤ n) (hsc : sc ≤ cap) (hjc : j ≤ sc) (hv : v = sliced q i j sc 1) : Is W v ((l.drop i).take (j - i)) := by
  obtain ⟨q', cap', g, off, e, h1, h2, h3, h4, h5⟩ := h
  cases e
  have hl : ((l.drop i).take (j - i)).length = j - i := by rw [List.length_take, List.length_drop]; omega
  subst hv
  unfold sliced
  by_cases c : sc = i
  · rw [if_pos c]
    refine ⟨q, sc - i, g, off, by rw [hl], by omega, by omega, fun h0 => ?_, fun h0 => ?_, fun j' x hx => ?_⟩
    · rw [hl] at h0; omega
    · rw [hl] at h0; omega
    · have := (List.getElem?_eq_some_iff.1 hx).1; rw [hl] at this; omega
  · rw [if_neg c]
    refine ⟨_, sc - i, g, off + i, by rw [hl], by omega, by omega, fun h0 => ?_, fun h0 => ?_, irow_take2 (irow_drop2 h5 i) _⟩
    · rw [hl] at h0
      rw [h3 (by omega), Option.map_some, Addr.add_mid, Nat.mul_one]
    · rw [hl] at h0
      exact h4 (by omega)
/-- One of its numbers. -/
theorem Is.at {W : World} {q : Option Addr} {n cap : Nat} {l : List Int} (h : Is W (.slice q n cap) l) (hn : 0 < n) : ∃ g off, q = some ⟨g, off, none⟩ ∧ g < W.heap.size ∧ IRow W g off l := by
  obtain ⟨q', cap', g, off, e, h1, h2, h3, h4, h5⟩ := h
  cases e
  exact ⟨g, off, h3 hn, h4 hn, h5⟩
theorem sizeN (w : World) : (sizeOf (Try.prog.elem 22)).run Try.prog w = .ok 1 w := by kernel_rfl
theorem eltN : Try.prog.underlying 22 = some (.slice (Try.prog.elem 22)) := by kernel_rfl
section
variable {ops : Array Oper} {rest : List Oper} {o : Oper} {a : Act} {w : World} {Q : Exit → Act → World → Prop}
theorem sli_l_run {ρ : Operand → Value} {x y : Operand} (ho : o.op = .slice 22 x (some y) none none) {q : Option Addr} {n cap i : Nat} {I : Int} {ki : IntKind}
    (hx : ρ x = .slice q n cap) (hy : ρ y = .int ki I) (hI : I = (i : Int)) (h1 : i ≤ n) (h2 : n ≤ cap) : (execOp ρ o).run Try.prog w = .ok (.value (sliced q i n cap 1)) w := by
  subst hI
  unfold execOp
  simp only [ho, hx, hy, Option.map_some, Option.map_none, Sem.run_bind, run_sliceAt_slice w 22 _ _ _ _ eltN, run_slice_l w 22 q n cap eltN _ (i : Int) (by omega) (by omega), sizeN, Result.andThen_ok, Sem.run_pure, Int.toNat_natCast]
theorem sli_h_run {ρ : Operand → Value} {x z : Operand} (ho : o.op = .slice 22 x none (some z) none) {q : Option Addr} {n cap j : Nat} {J : Int} {kj : IntKind}
    (hx : ρ x = .slice q n cap) (hz : ρ z = .int kj J) (hJ : J = (j : Int)) (h2 : j ≤ cap) : (execOp ρ o).run Try.prog w = .ok (.value (sliced q 0 j cap 1)) w := by
  subst hJ
  unfold execOp
  simp only [ho, hx, hz, Option.map_some, Option.map_none, Sem.run_bind, run_sliceAt_slice w 22 _ _ _ _ eltN, run_slice_h w 22 q n cap eltN _ (j : Int) (by omega) (by omega), sizeN, Result.andThen_ok, Sem.run_pure, Int.toNat_natCast]
/-- 'l[i:]' of numbers that an earlier world holds. -/
theorem sli_l (V : World) (hw : Region.wanted o (yielded ops a.tmps) = true) {x y : Operand} (ho : o.op = .slice 22 x (some y) none none) {q : Option Addr} {n cap : Nat} {I : Int} {ki : IntKind} {l : List Int} (i : Nat)
    (hx : a.eval x = .slice q n cap) (hy : a.eval y = .int ki I) (hI : I = (i : Int)) (h1 : i ≤ n) (hsl : Is V (.slice q n cap) l)
    (hK : ∀ q', Is V (.slice q' (n - i) (cap - i)) (l.drop i) → wpList Try.prog ops Q rest (a.put o.dst (.slice q' (n - i) (cap - i))) w) : wpList Try.prog ops Q (o :: rest) a w := by
  have hc := hsl.len
  obtain ⟨q', e⟩ := sliced_form q i n cap
  have hr := sli_l_run (w := w) ho hx hy hI h1 hc.2.1
  rw [e] at hr
  refine valS hw _ hr (hK q' ?_)
  have := hsl.sub h1 (Nat.le_refl _) (Nat.le_refl _) hc.2.1 e.symm
  rwa [List.take_of_length_le (by rw [List.length_drop]; omega)] at this
theorem sli_h (V : World) (hw : Region.wanted o (yielded ops a.tmps) = true) {x z : Operand} (ho : o.op = .slice 22 x none (some z) none) {q : Option Addr} {n cap : Nat} {J : Int} {kj : IntKind} {l : List Int} (j : Nat)
    (hx : a.eval x = .slice q n cap) (hz : a.eval z = .int kj J) (hJ : J = (j : Int)) (h1 : j ≤ n) (hsl : Is V (.slice q n cap) l)
    (hK : ∀ q', Is V (.slice q' j cap) (l.take j) → wpList Try.prog ops Q rest (a.put o.dst (.slice q' j cap)) w) : wpList Try.prog ops Q (o :: rest) a w := by
  have hc := hsl.len
  obtain ⟨q', e⟩ := sliced_form q 0 j cap
  have hr := sli_h_run (w := w) ho hx hz hJ (by omega)
  rw [e] at hr
  refine valS hw _ hr (hK q' ?_)
  have := hsl.sub (Nat.zero_le _) h1 (Nat.le_refl _) (by omega) e.symm
  simpa using this
end
section
variable {ops : Array Oper} {rest : List Oper} {o : Oper} {a : Act} {w : World} {Q : Exit → Act → World → Prop}
theorem appiW {K : Act → World → Prop} (A : World) (d : Option Tmp) (hd : o.dst = d) {s x : Operand} (ho : o.op = .call { callee := .builtin .append, args := #[s, x], argTypes := #[22, 22] })
    {v vx : Value} {n k : Nat} {l m : List Int} (hs : a.eval s = v) (hown : w.ownsRow A.heap.size 3 1 v n (ints l)) (hx : a.eval x = vx) (hsl : Is w vx m) (hm : m.length = k) (h63 : (n + k) * 8 ≤ 140737488355328) (hA : Below A.heap.size A w)
    (h : ∀ v' w', w'.ownsRow A.heap.size 3 1 v' (n + k) (ints (l ++ m)) → (v' = .slice none 0 0 ↔ v = .slice none 0 0 ∧ k = 0) → Below A.heap.size A w' → w.grownBy w' v.ownBlock → K (a.put d v') w') : o.wp Try.prog a w K Q := by
  subst hm
  obtain ⟨q, cap, rfl, hq, hsrc⟩ := hsl.src
  refine appW A d hd ho Try.underlying22 infoInt rfl (by omega) hs hown (ints m) hx hq (by rw [ints_len, Nat.mul_one]) hsrc (ints_one m) (by unfold maxLen; omega) h63 hA fun v' w' h1 h2 h3 h4 => ?_
  rw [ints_append] at h1
  exact h v' w' h1 h2 h3 h4
theorem mkW {K : Act → World → Prop} (A : World) (d : Option Tmp) (hd : o.dst = d) {x y : Operand} (ho : o.op = .makeSlice 22 x y)
    {c : Nat} {C : Int} (hx : a.eval x = .int .i64 0) (hy : a.eval y = .int .i64 C) (hC : C = (c : Int)) (hb : 8 * c ≤ 281474976710656) (hA : Below A.heap.size A w)
    (h : ∀ v w', w'.ownsRow A.heap.size 3 1 v 0 (ints []) → v ≠ .slice none 0 0 → Below A.heap.size A w' → K (a.put d v) w') : o.wp Try.prog a w K Q := by
  subst hC
  subst hd
  obtain ⟨i, hi, hz0, hz1, hz2⟩ := info_parts infoInt
  obtain ⟨w', hr, ho', hg⟩ := run_make_own (P := Try.prog) w A.heap.size 22 3 i _ 1 Try.underlying22 hi hz0 hz1 .i64 .i64 c (by rw [hz2]; exact hb) (by unfold maxLen; omega) hA.size
  unfold Oper.wp execOp
  simp only [ho, Sem.run_bind, hx, hy, hr, Result.andThen_ok]
  exact h _ _ ho' (by simp) (below_grown hA hg)
end
theorem io_chg {W W' : World} {base b : Nat} {v : Value} {l : List Int} (h : Io W base v l) (hc : Chg b W W') (hb : b < base) : Io W' base v l := by
  refine ⟨h.1, ?_⟩
  rcases h.2 with h2 | ⟨g, cap, cur, h1, h2, hg, h3⟩
  · exact .inl h2
  · exact .inr ⟨g, cap, cur, h1, h2, Blk.chg hg hc (by omega), h3⟩
/-- A copy of numbers, with a mark behind them. -/
def Cn (W : World) (base : Nat) (v : Value) (l : List Int) : Prop := ∃ g cap, v = .slice (some ⟨g, 0, none⟩) l.length cap ∧ Io W base (.slice (some ⟨g, 0, none⟩) (l ++ [-77]).length cap) (l ++ [-77])
theorem Cn.keep {W W' : World} {base : Nat} {v : Value} {l : List Int} (h : Cn W base v l) (hb : Below W.heap.size W W') : Cn W' base v l := by
  obtain ⟨g, cap, rfl, h1⟩ := h
  exact ⟨g, cap, rfl, h1.keep hb⟩
theorem Cn.chg {W W' : World} {base b : Nat} {v : Value} {l : List Int} (h : Cn W base v l) (hc : Chg b W W') (hb : b < base) : Cn W' base v l := by
  obtain ⟨g, cap, rfl, h1⟩ := h
  exact ⟨g, cap, rfl, io_chg h1 hc hb⟩
theorem Cn.less {W : World} {base base' : Nat} {v : Value} {l : List Int} (h : Cn W base v l) (hb : base' ≤ base) : Cn W base' v l := by
  obtain ⟨g, cap, rfl, h1⟩ := h
  exact ⟨g, cap, rfl, h1.less hb⟩
theorem Cn.open {W : World} {base : Nat} {v : Value} {l : List Int} (h : Cn W base v l) : Is W v l ∧ ∃ g cap, v = .slice (some ⟨g, 0, none⟩) l.length cap ∧ l.length + 1 ≤ cap ∧ W.cell? ⟨g, l.length, none⟩ = some (.int .i64 (-77)) := by
  obtain ⟨g, cap, rfl, h1⟩ := h
  obtain ⟨q, cap', g', off, e, x1, x2, x3, x4, x5⟩ := h1.is
  cases e
  have := x3 (by simp)
  cases this
  rw [List.length_append] at x1
  refine ⟨⟨_, cap, g, 0, rfl, Nat.le_trans (Nat.le_add_right _ _) x1, x2, fun _ => rfl, fun _ => x4 (by simp), fun j x hj => x5 j x ?_⟩, g, cap, rfl, x1, ?_⟩
  · rw [List.getElem?_append_left (List.getElem?_eq_some_iff.1 hj).1]; exact hj
  · have := x5 l.length (-77) (by simp)
    rwa [Nat.zero_add] at this
theorem Cn.is {W : World} {base : Nat} {v : Value} {l : List Int} (h : Cn W base v l) : Is W v l := h.open.1
theorem sep_old {W : World} {base e size n : Nat} {v u : Value} {xs : List Value} (h : W.ownsRow base e size v n xs) (hu : u.ownBlock = some W.heap.size) : Sep u v := by
  intro k hk hv
  have := World.ownsRow.lt h k hv
  rw [hu] at hk
  cases hk
  omega
theorem copied_cn {W : World} {base n g cap : Nat} {l : List Int} (h : W.ownsRow base 3 1 (.slice (some ⟨g, 0, none⟩) (0 + n + 1) cap) (0 + n + 1) (ints ([] ++ l ++ [-77]))) (hn : l.length = n) : Cn W base (.slice (some ⟨g, 0, none⟩) n cap) l := by
  subst hn
  refine ⟨g, cap, rfl, ?_⟩
  have e : (l ++ [-77]).length = 0 + l.length + 1 := by simp
  unfold Io
  rw [e]
  simpa using h
theorem sliced_0 (g n cap : Nat) : sliced (some ⟨g, 0, none⟩) 0 n cap 1 = .slice (some ⟨g, 0, none⟩) n cap := by
  unfold sliced
  simp [Addr.add]
end Go.Proofs.Ytnooedipanhkjaa
