/-
  append of numbers onto an own slice of numbers, and where it lies then.
  Parts of slices of numbers, at one operation.
  What the laws call besides: alive, large, estuarynum.Num.
-/
import Derived.Test.YtlhamckpgijjmaaPk06
import Derived.Test.YtlhamckpgijjmaaPk02
import Derived.Lib.SmallJoins
namespace Go.Proofs.Ytlhamckpgijjmaa
open Go.RowKit
set_option linter.unusedVariables false

/-- What append asks of its source. -/
theorem Is.src {W : World} {v : Value} {l : List Int} (h : Is W v l) : ∃ q cap, v = .slice q l.length cap ∧ (q = none → l.length = 0) ∧ (∀ ad, q = some ad → ∀ j u, (ints l)[j]? = some u → W.cell? (ad.add j) = some u) := by
  obtain ⟨q, cap, g, off, rfl, h1, h2, h3, h4, h5⟩ := h
  refine ⟨q, cap, rfl, fun hq => ?_, fun ad had j u hu => ?_⟩
  · by_cases h0 : 0 < l.length
    · have e := h3 h0
      rw [hq] at e; cases e
    · omega
  · rw [ints_at] at hu
    cases hx : l[j]? with
    | none => rw [hx] at hu; simp at hu
    | some x =>
      rw [hx] at hu
      have e := h3 (by have := (List.getElem?_eq_some_iff.1 hx).1; omega)
      rw [had] at e
      cases e
      rw [Addr.add_mid, h5 j x hx]
      simpa using hu
/-- A slice of numbers of the call's own. -/
def Io (W : World) (base : Nat) (v : Value) (l : List Int) : Prop := W.ownsRow base 3 1 v l.length (ints l)
theorem io_of {W : World} {base n : Nat} {v : Value} {l : List Int} (h : W.ownsRow base 3 1 v n (ints l)) : Io W base v l := by
  have := h.1
  rw [ints_len, Nat.mul_one] at this
  unfold Io
  rw [this]
  exact h
theorem Io.is {W : World} {base : Nat} {v : Value} {l : List Int} (h : Io W base v l) : Is W v l := own_is h
theorem Io.keep {W W' : World} {base : Nat} {v : Value} {l : List Int} (h : Io W base v l) (hb : Below W.heap.size W W') : Io W' base v l := own_keep h hb
theorem Io.less {W : World} {base base' : Nat} {v : Value} {l : List Int} (h : Io W base v l) (hb : base' ≤ base) : Io W base' v l := own_less h hb
theorem Io.lt {W : World} {base : Nat} {v : Value} {l : List Int} (h : Io W base v l) : ∀ k, v.ownBlock = some k → base ≤ k ∧ k < W.heap.size := World.ownsRow.lt h
theorem Io.kept {W W' : World} {base : Nat} {v x : Value} {l : List Int} (h : Io W base v l) (hg : W.grownBy W' x.ownBlock) (hs : Sep v x) : Io W' base v l := World.ownsRow.kept h hg hs.row
/-- Blocks stay apart where one of them grows. -/
theorem sep_at {a b b' : Value} {m : Nat} (h : Sep a b) (hl : ∀ k, a.ownBlock = some k → k < m) (hat : b'.ownBlock = b.ownBlock ∨ b'.ownBlock = some m) : Sep a b' := by
  intro k hk
  rcases hat with e | e
  · rw [e]; exact h k hk
  · rw [e]; intro he; have := hl k hk; simp at he; omega
section
variable {ops : Array Oper} {rest : List Oper} {o : Oper} {a : Act} {w : World} {Q : Exit → Act → World → Prop}
theorem appi_run (A : World) (ty : TypeId) {v vx : Value} {n k : Nat} {l m : List Int} (hown : w.ownsRow A.heap.size 3 1 v n (ints l)) (hsl : Is w vx m) (hm : m.length = k) (h63 : n + k ≤ 1000000) (hA : Below A.heap.size A w) :
    ∃ v' w', (Builtin.append_ #[31, 31] ty #[v, vx]).run Try.prog w = .ok v' w' ∧ w'.ownsRow A.heap.size 3 1 v' (n + k) (ints (l ++ m)) ∧ (v' = .slice none 0 0 ↔ v = .slice none 0 0 ∧ k = 0) ∧ Below A.heap.size A w' ∧ w.grownBy w' v.ownBlock ∧ (v'.ownBlock = v.ownBlock ∨ v'.ownBlock = some w.heap.size) := by
  obtain ⟨i, hi, hz0, hz1, hz2⟩ := info_parts infoInt
  subst hm
  obtain ⟨q, cap, rfl, hq, hsrc⟩ := hsl.src
  cases q with
  | none =>
    have h0 := hq rfl
    have hm0 : m = [] := List.eq_nil_of_length_eq_zero h0
    subst hm0
    exact ⟨v, w, append_none (P := Try.prog) w A.heap.size 31 ty 3 i 1 cap Try.underlying31 hi v n (ints l) hown, by simpa using hown, by simp, hA, ⟨rfl, rfl, rfl, Nat.le_refl _, fun _ _ _ => rfl⟩, .inl rfl⟩
  | some ad =>
    obtain ⟨v', w', hr, h2, h3, h4, h5⟩ := run_append_own_at (P := Try.prog) w A.heap.size 31 ty 3 i _ 1 8 Try.underlying31 hi hz0 hz1 hz2 rfl (by omega) v n (ints l) hown ad m.length cap (ints m) (by rw [ints_len, Nat.mul_one]) (hsrc ad rfl) (ints_one m) (by unfold maxLen; omega) (by omega) hA.size
    refine ⟨v', w', hr, by rw [← ints_append]; exact h2, h4, ?_, h3, h5⟩
    refine hA.grown h3 hA.size (fun r hr => ?_)
    rcases hown.2 with ⟨rfl, _⟩ | ⟨g', cap', cur', rfl, hbg, _⟩
    · cases hr
    · cases hr; exact hbg
theorem app_i (A : World) (hw : Region.wanted o (yielded ops a.tmps) = true) {s x : Operand} (ho : o.op = .call { callee := .builtin .append, args := #[s, x], argTypes := #[31, 31] })
    {v vx : Value} {n k : Nat} {l m : List Int} (hs : a.eval s = v) (hown : w.ownsRow A.heap.size 3 1 v n (ints l)) (hx : a.eval x = vx) (hsl : Is w vx m) (hm : m.length = k) (h63 : n + k ≤ 1000000) (hA : Below A.heap.size A w)
    (h : ∀ v' w', w'.ownsRow A.heap.size 3 1 v' (n + k) (ints (l ++ m)) → (v' = .slice none 0 0 ↔ v = .slice none 0 0 ∧ k = 0) → Below A.heap.size A w' → w.grownBy w' v.ownBlock → (v'.ownBlock = v.ownBlock ∨ v'.ownBlock = some w.heap.size) → wpList Try.prog ops Q rest (a.put o.dst v') w') : wpList Try.prog ops Q (o :: rest) a w := by
  unfold wpList
  rw [if_pos hw]
  left
  obtain ⟨v', w', hr, h1, h2, h3, h4, h5⟩ := appi_run A o.type hown hsl hm h63 hA
  unfold Oper.wp execOp
  simp only [ho, resolve, invoke, builtin, Sem.run_bind, Sem.run_pure, Result.andThen_ok, List.map_toArray, List.map_cons, List.map_nil, hs, hx, hr]
  exact h v' w' h1 h2 h3 h4 h5
/-- An operation that yields, at one operation. -/
theorem valWf {K : Act → World → Prop} (d : Option Tmp) (hd : o.dst = d) (v : Value) (hr : (execOp a.eval o).run Try.prog w = .ok (.value v) w) (h : K (a.put d v) w) : o.wp Try.prog a w K Q := by
  subst hd
  unfold Oper.wp
  rw [hr, Oper.upon_value]
  exact h
/-- A slice of numbers, just made: at one operation. -/
theorem bs_iW {K : Act → World → Prop} (d : Option Tmp) (hd : o.dst = d) {n : Nat} {parts : Array (Nat × Operand)} (ho : o.op = .buildSlice 31 n parts) (xs : List Int) {vs : Array (Nat × Value)} (hl : parts.map (fun (i, x) => (i, a.eval x)) = vs)
    (hrun : (Instr.buildSlice 31 n vs).run Try.prog w = .ok (.slice (some ⟨w.heap.size, 0, none⟩) n n) (w.alloc (.cells (ints xs).toArray 3))) (hn : xs.length = n) (hm : n ≤ maxLen)
    (h : ∀ W', W'.ownsRow w.heap.size 3 1 (.slice (some ⟨w.heap.size, 0, none⟩) n n) n (ints xs) → Below w.heap.size w W' → K (a.put d (.slice (some ⟨w.heap.size, 0, none⟩) n n)) W') : o.wp Try.prog a w K Q := by
  subst hd
  unfold Oper.wp execOp
  simp only [ho, Sem.run_bind, hl, hrun, Result.andThen_ok]
  exact h _ (own_new w xs n hn hm _ (Nat.le_refl _)) ((Below.refl _ _).alloc (Nat.le_refl _) _)
end
end Go.Proofs.Ytlhamckpgijjmaa
namespace Go.Proofs.Ytlhamckpgijjmaa
open Go.RowKit
set_option linter.unusedVariables false

theorem irow_take2 {W : World} {g off : Nat} {l : List Int} (h : IRow W g off l) (k : Nat) : IRow W g off (l.take k) := by
  intro j x hx
  have hj := (List.getElem?_eq_some_iff.1 hx).1
  rw [List.length_take] at hj
  rw [List.getElem?_take_of_lt (by omega)] at hx
  exact h j x hx
theorem irow_drop2 {W : World} {g off : Nat} {l : List Int} (h : IRow W g off l) (k : Nat) : IRow W g (off + k) (l.drop k) := by
  intro j x hx
  rw [List.getElem?_drop] at hx
  have := h (k + j) x hx
  rwa [← Nat.add_assoc] at this
theorem Is.len {W : World} {q : Option Addr} {n cap : Nat} {l : List Int} (h : Is W (.slice q n cap) l) : l.length = n ∧ n ≤ cap ∧ cap ≤ 9223372036854775807 := by
  obtain ⟨q', cap', g, off, e, h1, h2, _⟩ := h
  cases e
  exact ⟨rfl, h1, h2⟩
theorem Is.nil (W : World) : Is W (.slice none 0 0) [] := ⟨none, 0, 0, 0, rfl, Nat.le_refl _, by omega, fun h => absurd h (by simp), fun h => absurd h (by simp), fun j x h => by simp at h⟩
theorem Is.form {W : World} {v : Value} {l : List Int} (h : Is W v l) : ∃ q cap, v = .slice q l.length cap := by
  obtain ⟨q, cap, g, off, e, _⟩ := h
  exact ⟨q, cap, e⟩
/-- A part of a slice of numbers. -/
theorem Is.sub {W : World} {q : Option Addr} {n cap : Nat} {l : List Int} (h : Is W (.slice q n cap) l) {i j sc : Nat} {v : Value} (hij : i ≤ j) (hjn : j ≤ n) (hsc : sc ≤ cap) (hjc : j ≤ sc) (hv : v = sliced q i j sc 1) : Is W v ((l.drop i).take (j - i)) := by
  obtain ⟨q', cap', g, off, e, h1, h2, h3, h4, h5⟩ := h
  cases e
  have hl : ((l.drop i).take (j - i)).length = j - i := by rw [List.length_take, List.length_drop]; omega
  subst hv
  unfold sliced
  by_cases c : sc = i
  · rw [if_pos c]
    refine ⟨q, sc - i, g, off, by rw [hl], by omega, by omega, fun h0 => ?_, fun h0 => ?_, fun j' x hx => ?_⟩
    · rw [hl] at h0; omega
    · rw [hl] at h0; omega
    · have := (List.getElem?_eq_some_iff.1 hx).1; rw [hl] at this; omega
  · rw [if_neg c]
    refine ⟨_, sc - i, g, off + i, by rw [hl], by omega, by omega, fun h0 => ?_, fun h0 => ?_, irow_take2 (irow_drop2 h5 i) _⟩
    · rw [hl] at h0
      rw [h3 (by omega), Option.map_some, Addr.add_mid, Nat.mul_one]
    · rw [hl] at h0
      exact h4 (by omega)
/-- One of its numbers. -/
theorem Is.at {W : World} {q : Option Addr} {n cap : Nat} {l : List Int} (h : Is W (.slice q n cap) l) (hn : 0 < n) : ∃ g off, q = some ⟨g, off, none⟩ ∧ g < W.heap.size ∧ IRow W g off l := by
  obtain ⟨q', cap', g, off, e, h1, h2, h3, h4, h5⟩ := h
  cases e
  exact ⟨g, off, h3 hn, h4 hn, h5⟩
theorem sizeN (w : World) : (sizeOf (Try.prog.elem 31)).run Try.prog w = .ok 1 w := by kernel_rfl
theorem eltN : Try.prog.underlying 31 = some (.slice (Try.prog.elem 31)) := by kernel_rfl
section
variable {ops : Array Oper} {rest : List Oper} {o : Oper} {a : Act} {w : World} {Q : Exit → Act → World → Prop}
theorem sli_l_run {ρ : Operand → Value} {x y : Operand} (ho : o.op = .slice 31 x (some y) none none) {q : Option Addr} {n cap i : Nat} {I : Int} {ki : IntKind}
    (hx : ρ x = .slice q n cap) (hy : ρ y = .int ki I) (hI : I = (i : Int)) (h1 : i ≤ n) (h2 : n ≤ cap) : (execOp ρ o).run Try.prog w = .ok (.value (sliced q i n cap 1)) w := by
  subst hI
  unfold execOp
  simp only [ho, hx, hy, Option.map_some, Option.map_none, Sem.run_bind, run_sliceAt_slice w 31 _ _ _ _ eltN, run_slice_l w 31 q n cap eltN _ (i : Int) (by omega) (by omega), sizeN, Result.andThen_ok, Sem.run_pure, Int.toNat_natCast]
theorem sli_h_run {ρ : Operand → Value} {x z : Operand} (ho : o.op = .slice 31 x none (some z) none) {q : Option Addr} {n cap j : Nat} {J : Int} {kj : IntKind}
    (hx : ρ x = .slice q n cap) (hz : ρ z = .int kj J) (hJ : J = (j : Int)) (h2 : j ≤ cap) : (execOp ρ o).run Try.prog w = .ok (.value (sliced q 0 j cap 1)) w := by
  subst hJ
  unfold execOp
  simp only [ho, hx, hz, Option.map_some, Option.map_none, Sem.run_bind, run_sliceAt_slice w 31 _ _ _ _ eltN, run_slice_h w 31 q n cap eltN _ (j : Int) (by omega) (by omega), sizeN, Result.andThen_ok, Sem.run_pure, Int.toNat_natCast]
/-- 'l[i:]' of numbers that an earlier world holds. -/
theorem sli_l (V : World) (hw : Region.wanted o (yielded ops a.tmps) = true) {x y : Operand} (ho : o.op = .slice 31 x (some y) none none) {q : Option Addr} {n cap : Nat} {I : Int} {ki : IntKind} {l : List Int} (i : Nat)
    (hx : a.eval x = .slice q n cap) (hy : a.eval y = .int ki I) (hI : I = (i : Int)) (h1 : i ≤ n) (hsl : Is V (.slice q n cap) l)
    (hK : ∀ q', Is V (.slice q' (n - i) (cap - i)) (l.drop i) → wpList Try.prog ops Q rest (a.put o.dst (.slice q' (n - i) (cap - i))) w) : wpList Try.prog ops Q (o :: rest) a w := by
  have hc := hsl.len
  obtain ⟨q', e⟩ := sliced_form q i n cap
  have hr := sli_l_run (w := w) ho hx hy hI h1 hc.2.1
  rw [e] at hr
  refine valS hw _ hr (hK q' ?_)
  have := hsl.sub h1 (Nat.le_refl _) (Nat.le_refl _) hc.2.1 e.symm
  rwa [List.take_of_length_le (by rw [List.length_drop]; omega)] at this
theorem sli_h (V : World) (hw : Region.wanted o (yielded ops a.tmps) = true) {x z : Operand} (ho : o.op = .slice 31 x none (some z) none) {q : Option Addr} {n cap : Nat} {J : Int} {kj : IntKind} {l : List Int} (j : Nat)
    (hx : a.eval x = .slice q n cap) (hz : a.eval z = .int kj J) (hJ : J = (j : Int)) (h1 : j ≤ n) (hsl : Is V (.slice q n cap) l)
    (hK : ∀ q', Is V (.slice q' j cap) (l.take j) → wpList Try.prog ops Q rest (a.put o.dst (.slice q' j cap)) w) : wpList Try.prog ops Q (o :: rest) a w := by
  have hc := hsl.len
  obtain ⟨q', e⟩ := sliced_form q 0 j cap
  have hr := sli_h_run (w := w) ho hx hz hJ (by omega)
  rw [e] at hr
  refine valS hw _ hr (hK q' ?_)
  have := hsl.sub (Nat.zero_le _) h1 (Nat.le_refl _) (by omega) e.symm
  simpa using this
end
section
variable {ops : Array Oper} {rest : List Oper} {o : Oper} {a : Act} {w : World} {Q : Exit → Act → World → Prop}
theorem appiW {K : Act → World → Prop} (A : World) (d : Option Tmp) (hd : o.dst = d) {s x : Operand} (ho : o.op = .call { callee := .builtin .append, args := #[s, x], argTypes := #[31, 31] })
    {v vx : Value} {n k : Nat} {l m : List Int} (hs : a.eval s = v) (hown : w.ownsRow A.heap.size 3 1 v n (ints l)) (hx : a.eval x = vx) (hsl : Is w vx m) (hm : m.length = k) (h63 : (n + k) * 8 ≤ 140737488355328) (hA : Below A.heap.size A w)
    (h : ∀ v' w', w'.ownsRow A.heap.size 3 1 v' (n + k) (ints (l ++ m)) → (v' = .slice none 0 0 ↔ v = .slice none 0 0 ∧ k = 0) → Below A.heap.size A w' → w.grownBy w' v.ownBlock → K (a.put d v') w') : o.wp Try.prog a w K Q := by
  subst hm
  obtain ⟨q, cap, rfl, hq, hsrc⟩ := hsl.src
  refine appW A d hd ho Try.underlying31 infoInt rfl (by omega) hs hown (ints m) hx hq (by rw [ints_len, Nat.mul_one]) hsrc (ints_one m) (by unfold maxLen; omega) h63 hA fun v' w' h1 h2 h3 h4 => ?_
  rw [ints_append] at h1
  exact h v' w' h1 h2 h3 h4
theorem mkW {K : Act → World → Prop} (A : World) (d : Option Tmp) (hd : o.dst = d) {x y : Operand} (ho : o.op = .makeSlice 31 x y)
    {c : Nat} {C : Int} (hx : a.eval x = .int .i64 0) (hy : a.eval y = .int .i64 C) (hC : C = (c : Int)) (hb : 8 * c ≤ 281474976710656) (hA : Below A.heap.size A w)
    (h : ∀ v w', w'.ownsRow A.heap.size 3 1 v 0 (ints []) → v ≠ .slice none 0 0 → Below A.heap.size A w' → K (a.put d v) w') : o.wp Try.prog a w K Q := by
  subst hC
  subst hd
  obtain ⟨i, hi, hz0, hz1, hz2⟩ := info_parts infoInt
  obtain ⟨w', hr, ho', hg⟩ := run_make_own (P := Try.prog) w A.heap.size 31 3 i _ 1 Try.underlying31 hi hz0 hz1 .i64 .i64 c (by rw [hz2]; exact hb) (by unfold maxLen; omega) hA.size
  unfold Oper.wp execOp
  simp only [ho, Sem.run_bind, hx, hy, hr, Result.andThen_ok]
  exact h _ _ ho' (by simp) (below_grown hA hg)
end
theorem io_chg {W W' : World} {base b : Nat} {v : Value} {l : List Int} (h : Io W base v l) (hc : Chg b W W') (hb : b < base) : Io W' base v l := by
  refine ⟨h.1, ?_⟩
  rcases h.2 with h2 | ⟨g, cap, cur, h1, h2, hg, h3⟩
  · exact .inl h2
  · exact .inr ⟨g, cap, cur, h1, h2, Blk.chg hg hc (by omega), h3⟩
/-- A copy of numbers, with a mark behind them. -/
def Cn (W : World) (base : Nat) (v : Value) (l : List Int) : Prop := ∃ g cap, v = .slice (some ⟨g, 0, none⟩) l.length cap ∧ Io W base (.slice (some ⟨g, 0, none⟩) (l ++ [-77]).length cap) (l ++ [-77])
theorem Cn.keep {W W' : World} {base : Nat} {v : Value} {l : List Int} (h : Cn W base v l) (hb : Below W.heap.size W W') : Cn W' base v l := by
  obtain ⟨g, cap, rfl, h1⟩ := h
  exact ⟨g, cap, rfl, h1.keep hb⟩
theorem Cn.chg {W W' : World} {base b : Nat} {v : Value} {l : List Int} (h : Cn W base v l) (hc : Chg b W W') (hb : b < base) : Cn W' base v l := by
  obtain ⟨g, cap, rfl, h1⟩ := h
  exact ⟨g, cap, rfl, io_chg h1 hc hb⟩
theorem Cn.less {W : World} {base base' : Nat} {v : Value} {l : List Int} (h : Cn W base v l) (hb : base' ≤ base) : Cn W base' v l := by
  obtain ⟨g, cap, rfl, h1⟩ := h
  exact ⟨g, cap, rfl, h1.less hb⟩
theorem Cn.open {W : World} {base : Nat} {v : Value} {l : List Int} (h : Cn W base v l) : Is W v l ∧ ∃ g cap, v = .slice (some ⟨g, 0, none⟩) l.length cap ∧ l.length + 1 ≤ cap ∧ W.cell? ⟨g, l.length, none⟩ = some (.int .i64 (-77)) := by
  obtain ⟨g, cap, rfl, h1⟩ := h
  obtain ⟨q, cap', g', off, e, x1, x2, x3, x4, x5⟩ := h1.is
  cases e
  have := x3 (by simp)
  cases this
  rw [List.length_append] at x1
  refine ⟨⟨_, cap, g, 0, rfl, Nat.le_trans (Nat.le_add_right _ _) x1, x2, fun _ => rfl, fun _ => x4 (by simp), fun j x hj => x5 j x ?_⟩, g, cap, rfl, x1, ?_⟩
  · rw [List.getElem?_append_left (List.getElem?_eq_some_iff.1 hj).1]; exact hj
  · have := x5 l.length (-77) (by simp)
    rwa [Nat.zero_add] at this
theorem Cn.is {W : World} {base : Nat} {v : Value} {l : List Int} (h : Cn W base v l) : Is W v l := h.open.1
theorem sep_old {W : World} {base e size n : Nat} {v u : Value} {xs : List Value} (h : W.ownsRow base e size v n xs) (hu : u.ownBlock = some W.heap.size) : Sep u v := by
  intro k hk hv
  have := World.ownsRow.lt h k hv
  rw [hu] at hk
  cases hk
  omega
theorem copied_cn {W : World} {base n g cap : Nat} {l : List Int} (h : W.ownsRow base 3 1 (.slice (some ⟨g, 0, none⟩) (0 + n + 1) cap) (0 + n + 1) (ints ([] ++ l ++ [-77]))) (hn : l.length = n) : Cn W base (.slice (some ⟨g, 0, none⟩) n cap) l := by
  subst hn
  refine ⟨g, cap, rfl, ?_⟩
  have e : (l ++ [-77]).length = 0 + l.length + 1 := by simp
  unfold Io
  rw [e]
  simpa using h
theorem sliced_0 (g n cap : Nat) : sliced (some ⟨g, 0, none⟩) 0 n cap 1 = .slice (some ⟨g, 0, none⟩) n cap := by
  unfold sliced
  simp [Addr.add]
end Go.Proofs.Ytlhamckpgijjmaa
namespace Go.Proofs.Ytlhamckpgijjmaa
open Go.RowKit
set_option linter.unusedVariables false

theorem ex_nums : strB ([] ++ numsB [0, -1, 1, -300]) = ⟨#[0, 1, 1, 1, 2, 2, 87, 2]⟩ := by decide +kernel
theorem ex_frm : strB (frm ([] : List (List Nat)).flatten) = ⟨#[0, 0, 0, 0, 197, 157, 28, 129]⟩ := by decide +kernel
theorem isl4 (a b c d : Int) (w : World) : (Instr.buildSlice 31 4 #[(0, .int .i64 a), (1, .int .i64 b), (2, .int .i64 c), (3, .int .i64 d)]).run Try.prog w = .ok (.slice (some ⟨w.heap.size, 0, none⟩) 4 4) (w.alloc (.cells (ints [a, b, c, d]).toArray 3)) := by kernel_rfl
/-- What large answers. -/
def LP (ls : List (List Nat)) (e : Ending) : Prop := ∃ r : Bool, e = .returned (.bool r) ∧ (r = false → ls.length ≤ 300 ∧ ls.flatten.length ≤ 65536)
theorem ta_err (n : Int) (w : World) : (Instr.typeAssert (Err n) 28 55 true).run Try.prog w = .ok (.tuple #[.int .i64 n, .bool true]) w := by kernel_rfl
/-- '==' of two errors. -/
theorem eq33 (w : World) : (binOp .eql 28 (Err 3) (Err 3)).run Try.prog w = .ok (.bool true) w := by kernel_rfl
theorem ne33 (w : World) : (binOp .neq 28 (Err 3) (Err 3)).run Try.prog w = .ok (.bool false) w := by kernel_rfl
theorem eq77 (w : World) : (binOp .eql 28 (Err 7) (Err 7)).run Try.prog w = .ok (.bool true) w := by kernel_rfl
theorem eq30 (w : World) : (binOp .eql 28 (Err 3) .nilIface).run Try.prog w = .ok (.bool false) w := by kernel_rfl
theorem ne30 (w : World) : (binOp .neq 28 (Err 3) .nilIface).run Try.prog w = .ok (.bool true) w := by kernel_rfl
theorem ne70 (w : World) : (binOp .neq 28 (Err 7) .nilIface).run Try.prog w = .ok (.bool true) w := by kernel_rfl
theorem ne00 (w : World) : (binOp .neq 28 .nilIface .nilIface).run Try.prog w = .ok (.bool false) w := by kernel_rfl
theorem eq00 (w : World) : (binOp .eql 28 .nilIface .nilIface).run Try.prog w = .ok (.bool true) w := by kernel_rfl
/-- The error of a number. -/
def errV (n : Nat) : Value := if n = 0 then .nilIface else Err n
theorem errV_ok {n : Nat} (h : n = 0) : errV n = .nilIface := if_pos h
theorem errV_no {n : Nat} (h : n ≠ 0) : errV n = Err n := if_neg h
end Go.Proofs.Ytlhamckpgijjmaa
