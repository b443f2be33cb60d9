/-
  Nothing but these blocks has turned; what stays then.
  Parts of slices of numbers, at one operation.
  The numbers that bytes consist of: frame.Nums.
  Are slices each its own? What estuarynum.Apart does to them, step by step.
  estuarynum.Apart: true where each slice is its own.
-/
import Derived.Test.YteffpgodookebaaGreatPk04
import Derived.Test.YteffpgodookebaaGreatPk05
import Derived.Test.YteffpgodookebaaGreatPk22
import Derived.Test.YteffpgodookebaaGreatPk03
namespace Go.Proofs.YteffpgodookebaaGreat
open Go.RowKit
set_option linter.unusedVariables false
set_option maxRecDepth 100000

/-- Nothing but these blocks has turned, of those that there were. -/
structure Frm (X : Nat → Prop) (W W' : World) : Prop where
  os : W'.os = W.os
  tape : W'.tape = W.tape
  output : W'.output = W.output
  size : W.heap.size ≤ W'.heap.size
  other : ∀ k, k < W.heap.size → ¬ X k → W'.heap[k]? = W.heap[k]?
theorem Frm.refl (X : Nat → Prop) (W : World) : Frm X W W := ⟨rfl, rfl, rfl, Nat.le_refl _, fun _ _ _ => rfl⟩
theorem Frm.trans {X : Nat → Prop} {A B C : World} (h : Frm X A B) (k : Frm X B C) : Frm X A C :=
  ⟨k.os.trans h.os, k.tape.trans h.tape, k.output.trans h.output, Nat.le_trans h.size k.size, fun i hi hx => (k.other i (Nat.lt_of_lt_of_le hi h.size) hx).trans (h.other i hi hx)⟩
theorem Frm.mono {X Y : Nat → Prop} {A B : World} (h : Frm X A B) (hxy : ∀ k, X k → Y k) : Frm Y A B := ⟨h.os, h.tape, h.output, h.size, fun i hi hy => h.other i hi (fun hx => hy (hxy i hx))⟩
/-- What is new may turn. -/
theorem Frm.young {X Y : Nat → Prop} {A B C : World} (h : Frm X A B) (k : Frm Y B C) (hxy : ∀ k, k < A.heap.size → Y k → X k) : Frm X A C :=
  ⟨k.os.trans h.os, k.tape.trans h.tape, k.output.trans h.output, Nat.le_trans h.size k.size, fun i hi hx => (k.other i (Nat.lt_of_lt_of_le hi h.size) (fun hy => hx (hxy i hi hy))).trans (h.other i hi hx)⟩
theorem frm_below {X : Nat → Prop} {A B : World} (h : Below A.heap.size A B) : Frm X A B := ⟨h.os, h.tape, h.output, h.size, fun i hi _ => h.block i hi⟩
theorem frm_chg {X : Nat → Prop} {A B : World} {b : Nat} (h : Chg b A B) (hb : X b) : Frm X A B := ⟨h.os, h.tape, h.output, Nat.le_of_eq h.size.symm, fun i hi hx => h.other i (fun e => hx (e ▸ hb))⟩
theorem frm_grown {X : Nat → Prop} {A B : World} {b : Nat} (h : A.grownBy B (some b)) (hb : X b) : Frm X A B := ⟨h.os, h.tape, h.output, h.size, fun i hi hx => h.block i hi (fun e => hx (by cases e; exact hb))⟩
theorem Frm.below {X : Nat → Prop} {A B : World} (h : Frm X A B) {n : Nat} (hn : n ≤ A.heap.size) (hx : ∀ k, X k → n ≤ k) : Below n A B := ⟨h.os, h.tape, h.output, h.size, fun i hi => h.other i (Nat.lt_of_lt_of_le hi hn) (fun e => by have := hx i e; omega)⟩
theorem Blk.frm {X : Nat → Prop} {W W' : World} {b : Nat} {vs : Array Value} {t : TypeId} (h : Blk W b vs t) (hf : Frm X W W') (hx : ¬ X b) : Blk W' b vs t := by
  unfold Blk; rw [hf.other b h.lt hx]; exact h
/-- What kind of block it is. -/
def kindR (W : World) (k : Nat) (t : TypeId) : Prop := ∃ cur fr, W.heap[k]? = some (.cells cur t fr)
theorem kindR.uniq {W : World} {k : Nat} {t t' : TypeId} (h : kindR W k t) (h' : kindR W k t') : t = t' := by
  obtain ⟨c, f, e⟩ := h
  obtain ⟨c', f', e'⟩ := h'
  rw [e] at e'
  cases e'
  rfl
theorem Blk.kindR {W : World} {k : Nat} {xs : Array Value} {t : TypeId} (h : Blk W k xs t) : kindR W k t := ⟨xs, _, h⟩
theorem own_kindR {W : World} {B n e s : Nat} {v : Value} {xs : List Value} (h : W.ownsRow B e s v n xs) {k : Nat} (hk : v.ownBlock = some k) : kindR W k e := by
  rcases h.2 with ⟨h2, _⟩ | ⟨g, cap, cur, h2, _, hg, _⟩
  · rw [h2] at hk; cases hk
  · rw [h2] at hk
    have : g = k := by simpa [Value.ownBlock] using hk
    subst this
    exact ⟨cur, _, hg⟩
/-- None of these blocks holds numbers. -/
def NoI (X : Nat → Prop) (W : World) : Prop := ∀ k, X k → ¬ kindR W k 3
theorem Io.frm {X : Nat → Prop} {W W' : World} {B : Nat} {v : Value} {l : List Int} (h : Io W B v l) (hf : Frm X W W') (hx : NoI X W) : Io W' B v l :=
  own_at h fun g hg => hf.other g (h.lt g hg).2 (fun e => hx g e (own_kindR h hg))
end Go.Proofs.YteffpgodookebaaGreat
namespace Go.Proofs.YteffpgodookebaaGreat
set_option maxRecDepth 100000
open Go.RowKit
set_option linter.unusedVariables false

theorem irow_take2 {W : World} {g off : Nat} {l : List Int} (h : IRow W g off l) (k : Nat) : IRow W g off (l.take k) := by
  intro j x hx
  have hj := (List.getElem?_eq_some_iff.1 hx).1
  rw [List.length_take] at hj
  rw [List.getElem?_take_of_lt (by omega)] at hx
  exact h j x hx
theorem irow_drop2 {W : World} {g off : Nat} {l : List Int} (h : IRow W g off l) (k : Nat) : IRow W g (off + k) (l.drop k) := by
  intro j x hx
  rw [List.getElem?_drop] at hx
  have := h (k + j) x hx
  rwa [← Nat.add_assoc] at this
theorem Is.len {W : World} {q : Option Addr} {n cap : Nat} {l : List Int} (h : Is W (.slice q n cap) l) : l.length = n ∧ n ≤ cap ∧ cap ≤ 9223372036854775807 := by
  obtain ⟨q', cap', g, off, e, h1, h2, _⟩ := h
  cases e
  exact ⟨rfl, h1, h2⟩
theorem Is.nil (W : World) : Is W (.slice none 0 0) [] := ⟨none, 0, 0, 0, rfl, Nat.le_refl _, by omega, fun h => absurd h (by simp), fun h => absurd h (by simp), fun j x h => by simp at h⟩
theorem Is.form {W : World} {v : Value} {l : List Int} (h : Is W v l) : ∃ q cap, v = .slice q l.length cap := by
  obtain ⟨q, cap, g, off, e, _⟩ := h
  exact ⟨q, cap, e⟩
/-- A part of a slice of numbers. -/
theorem Is.sub {W : World} {q : Option Addr} {n cap : Nat} {l : List Int} (h : Is W (.slice q n cap) l) {i j sc : Nat} {v : Value} (hij : i ≤ j) (hjn : j ≤ n) (hsc : sc ≤ cap) (hjc : j ≤ sc) (hv : v = sliced q i j sc 1) : Is W v ((l.drop i).take (j - i)) := by
  obtain ⟨q', cap', g, off, e, h1, h2, h3, h4, h5⟩ := h
  cases e
  have hl : ((l.drop i).take (j - i)).length = j - i := by rw [List.length_take, List.length_drop]; omega
  subst hv
  unfold sliced
  by_cases c : sc = i
  · rw [if_pos c]
    refine ⟨q, sc - i, g, off, by rw [hl], by omega, by omega, fun h0 => ?_, fun h0 => ?_, fun j' x hx => ?_⟩
    · rw [hl] at h0; omega
    · rw [hl] at h0; omega
    · have := (List.getElem?_eq_some_iff.1 hx).1; rw [hl] at this; omega
  · rw [if_neg c]
    refine ⟨_, sc - i, g, off + i, by rw [hl], by omega, by omega, fun h0 => ?_, fun h0 => ?_, irow_take2 (irow_drop2 h5 i) _⟩
    · rw [hl] at h0
      rw [h3 (by omega), Option.map_some, Addr.add_mid, Nat.mul_one]
    · rw [hl] at h0
      exact h4 (by omega)
/-- One of its numbers. -/
theorem Is.at {W : World} {q : Option Addr} {n cap : Nat} {l : List Int} (h : Is W (.slice q n cap) l) (hn : 0 < n) : ∃ g off, q = some ⟨g, off, none⟩ ∧ g < W.heap.size ∧ IRow W g off l := by
  obtain ⟨q', cap', g, off, e, h1, h2, h3, h4, h5⟩ := h
  cases e
  exact ⟨g, off, h3 hn, h4 hn, h5⟩
theorem sizeN (w : World) : (sizeOf (Tryz.prog.elem 22)).run Tryz.prog w = .ok 1 w := by kernel_rfl
theorem eltN : Tryz.prog.underlying 22 = some (.slice (Tryz.prog.elem 22)) := by kernel_rfl
section
variable {ops : Array Oper} {rest : List Oper} {o : Oper} {a : Act} {w : World} {Q : Exit → Act → World → Prop}
theorem sli_l_run {ρ : Operand → Value} {x y : Operand} (ho : o.op = .slice 22 x (some y) none none) {q : Option Addr} {n cap i : Nat} {I : Int} {ki : IntKind}
    (hx : ρ x = .slice q n cap) (hy : ρ y = .int ki I) (hI : I = (i : Int)) (h1 : i ≤ n) (h2 : n ≤ cap) : (execOp ρ o).run Tryz.prog w = .ok (.value (sliced q i n cap 1)) w := by
  subst hI
  unfold execOp
  simp only [ho, hx, hy, Option.map_some, Option.map_none, Sem.run_bind, run_sliceAt_slice w 22 _ _ _ _ eltN, run_slice_l w 22 q n cap eltN _ (i : Int) (by omega) (by omega), sizeN, Result.andThen_ok, Sem.run_pure, Int.toNat_natCast]
theorem sli_h_run {ρ : Operand → Value} {x z : Operand} (ho : o.op = .slice 22 x none (some z) none) {q : Option Addr} {n cap j : Nat} {J : Int} {kj : IntKind}
    (hx : ρ x = .slice q n cap) (hz : ρ z = .int kj J) (hJ : J = (j : Int)) (h2 : j ≤ cap) : (execOp ρ o).run Tryz.prog w = .ok (.value (sliced q 0 j cap 1)) w := by
  subst hJ
  unfold execOp
  simp only [ho, hx, hz, Option.map_some, Option.map_none, Sem.run_bind, run_sliceAt_slice w 22 _ _ _ _ eltN, run_slice_h w 22 q n cap eltN _ (j : Int) (by omega) (by omega), sizeN, Result.andThen_ok, Sem.run_pure, Int.toNat_natCast]
/-- 'l[i:]' of numbers that an earlier world holds. -/
theorem sli_l (V : World) (hw : Region.wanted o (yielded ops a.tmps) = true) {x y : Operand} (ho : o.op = .slice 22 x (some y) none none) {q : Option Addr} {n cap : Nat} {I : Int} {ki : IntKind} {l : List Int} (i : Nat)
    (hx : a.eval x = .slice q n cap) (hy : a.eval y = .int ki I) (hI : I = (i : Int)) (h1 : i ≤ n) (hsl : Is V (.slice q n cap) l)
    (hK : ∀ q', Is V (.slice q' (n - i) (cap - i)) (l.drop i) → wpList Tryz.prog ops Q rest (a.put o.dst (.slice q' (n - i) (cap - i))) w) : wpList Tryz.prog ops Q (o :: rest) a w := by
  have hc := hsl.len
  obtain ⟨q', e⟩ := sliced_form q i n cap
  have hr := sli_l_run (w := w) ho hx hy hI h1 hc.2.1
  rw [e] at hr
  refine valS hw _ hr (hK q' ?_)
  have := hsl.sub h1 (Nat.le_refl _) (Nat.le_refl _) hc.2.1 e.symm
  rwa [List.take_of_length_le (by rw [List.length_drop]; omega)] at this
theorem sli_h (V : World) (hw : Region.wanted o (yielded ops a.tmps) = true) {x z : Operand} (ho : o.op = .slice 22 x none (some z) none) {q : Option Addr} {n cap : Nat} {J : Int} {kj : IntKind} {l : List Int} (j : Nat)
    (hx : a.eval x = .slice q n cap) (hz : a.eval z = .int kj J) (hJ : J = (j : Int)) (h1 : j ≤ n) (hsl : Is V (.slice q n cap) l)
    (hK : ∀ q', Is V (.slice q' j cap) (l.take j) → wpList Tryz.prog ops Q rest (a.put o.dst (.slice q' j cap)) w) : wpList Tryz.prog ops Q (o :: rest) a w := by
  have hc := hsl.len
  obtain ⟨q', e⟩ := sliced_form q 0 j cap
  have hr := sli_h_run (w := w) ho hx hz hJ (by omega)
  rw [e] at hr
  refine valS hw _ hr (hK q' ?_)
  have := hsl.sub (Nat.zero_le _) h1 (Nat.le_refl _) (by omega) e.symm
  simpa using this
end
section
variable {ops : Array Oper} {rest : List Oper} {o : Oper} {a : Act} {w : World} {Q : Exit → Act → World → Prop}
theorem appiW {K : Act → World → Prop} (A : World) (d : Option Tmp) (hd : o.dst = d) {s x : Operand} (ho : o.op = .call { callee := .builtin .append, args := #[s, x], argTypes := #[22, 22] })
    {v vx : Value} {n k : Nat} {l m : List Int} (hs : a.eval s = v) (hown : w.ownsRow A.heap.size 3 1 v n (ints l)) (hx : a.eval x = vx) (hsl : Is w vx m) (hm : m.length = k) (h63 : (n + k) * 8 ≤ 140737488355328) (hA : Below A.heap.size A w)
    (h : ∀ v' w', w'.ownsRow A.heap.size 3 1 v' (n + k) (ints (l ++ m)) → (v' = .slice none 0 0 ↔ v = .slice none 0 0 ∧ k = 0) → Below A.heap.size A w' → w.grownBy w' v.ownBlock → K (a.put d v') w') : o.wp Tryz.prog a w K Q := by
  subst hm
  obtain ⟨q, cap, rfl, hq, hsrc⟩ := hsl.src
  refine appW A d hd ho Tryz.underlying22 infoInt rfl (by omega) hs hown (ints m) hx hq (by rw [ints_len, Nat.mul_one]) hsrc (ints_one m) (by unfold maxLen; omega) h63 hA fun v' w' h1 h2 h3 h4 => ?_
  rw [ints_append] at h1
  exact h v' w' h1 h2 h3 h4
theorem mkW {K : Act → World → Prop} (A : World) (d : Option Tmp) (hd : o.dst = d) {x y : Operand} (ho : o.op = .makeSlice 22 x y)
    {c : Nat} {C : Int} (hx : a.eval x = .int .i64 0) (hy : a.eval y = .int .i64 C) (hC : C = (c : Int)) (hb : 8 * c ≤ 281474976710656) (hA : Below A.heap.size A w)
    (h : ∀ v w', w'.ownsRow A.heap.size 3 1 v 0 (ints []) → v ≠ .slice none 0 0 → Below A.heap.size A w' → K (a.put d v) w') : o.wp Tryz.prog a w K Q := by
  subst hC
  subst hd
  obtain ⟨i, hi, hz0, hz1, hz2⟩ := info_parts infoInt
  obtain ⟨w', hr, ho', hg⟩ := run_make_own (P := Tryz.prog) w A.heap.size 22 3 i _ 1 Tryz.underlying22 hi hz0 hz1 .i64 .i64 c (by rw [hz2]; exact hb) (by unfold maxLen; omega) hA.size
  unfold Oper.wp execOp
  simp only [ho, Sem.run_bind, hx, hy, hr, Result.andThen_ok]
  exact h _ _ ho' (by simp) (below_grown hA hg)
end
theorem io_chg {W W' : World} {base b : Nat} {v : Value} {l : List Int} (h : Io W base v l) (hc : Chg b W W') (hb : b < base) : Io W' base v l := by
  refine ⟨h.1, ?_⟩
  rcases h.2 with h2 | ⟨g, cap, cur, h1, h2, hg, h3⟩
  · exact .inl h2
  · exact .inr ⟨g, cap, cur, h1, h2, Blk.chg hg hc (by omega), h3⟩
/-- A copy of numbers, with a mark behind them. -/
def Cn (W : World) (base : Nat) (v : Value) (l : List Int) : Prop := ∃ g cap, v = .slice (some ⟨g, 0, none⟩) l.length cap ∧ Io W base (.slice (some ⟨g, 0, none⟩) (l ++ [-77]).length cap) (l ++ [-77])
theorem Cn.keep {W W' : World} {base : Nat} {v : Value} {l : List Int} (h : Cn W base v l) (hb : Below W.heap.size W W') : Cn W' base v l := by
  obtain ⟨g, cap, rfl, h1⟩ := h
  exact ⟨g, cap, rfl, h1.keep hb⟩
theorem Cn.chg {W W' : World} {base b : Nat} {v : Value} {l : List Int} (h : Cn W base v l) (hc : Chg b W W') (hb : b < base) : Cn W' base v l := by
  obtain ⟨g, cap, rfl, h1⟩ := h
  exact ⟨g, cap, rfl, io_chg h1 hc hb⟩
theorem Cn.less {W : World} {base base' : Nat} {v : Value} {l : List Int} (h : Cn W base v l) (hb : base' ≤ base) : Cn W base' v l := by
  obtain ⟨g, cap, rfl, h1⟩ := h
  exact ⟨g, cap, rfl, h1.less hb⟩
theorem Cn.open {W : World} {base : Nat} {v : Value} {l : List Int} (h : Cn W base v l) : Is W v l ∧ ∃ g cap, v = .slice (some ⟨g, 0, none⟩) l.length cap ∧ l.length + 1 ≤ cap ∧ W.cell? ⟨g, l.length, none⟩ = some (.int .i64 (-77)) := by
  obtain ⟨g, cap, rfl, h1⟩ := h
  obtain ⟨q, cap', g', off, e, x1, x2, x3, x4, x5⟩ := h1.is
  cases e
  have := x3 (by simp)
  cases this
  rw [List.length_append] at x1
  refine ⟨⟨_, cap, g, 0, rfl, Nat.le_trans (Nat.le_add_right _ _) x1, x2, fun _ => rfl, fun _ => x4 (by simp), fun j x hj => x5 j x ?_⟩, g, cap, rfl, x1, ?_⟩
  · rw [List.getElem?_append_left (List.getElem?_eq_some_iff.1 hj).1]; exact hj
  · have := x5 l.length (-77) (by simp)
    rwa [Nat.zero_add] at this
theorem Cn.is {W : World} {base : Nat} {v : Value} {l : List Int} (h : Cn W base v l) : Is W v l := h.open.1
theorem sep_old {W : World} {base e size n : Nat} {v u : Value} {xs : List Value} (h : W.ownsRow base e size v n xs) (hu : u.ownBlock = some W.heap.size) : Sep u v := by
  intro k hk hv
  have := World.ownsRow.lt h k hv
  rw [hu] at hk
  cases hk
  omega
theorem copied_cn {W : World} {base n g cap : Nat} {l : List Int} (h : W.ownsRow base 3 1 (.slice (some ⟨g, 0, none⟩) (0 + n + 1) cap) (0 + n + 1) (ints ([] ++ l ++ [-77]))) (hn : l.length = n) : Cn W base (.slice (some ⟨g, 0, none⟩) n cap) l := by
  subst hn
  refine ⟨g, cap, rfl, ?_⟩
  have e : (l ++ [-77]).length = 0 + l.length + 1 := by simp
  unfold Io
  rw [e]
  simpa using h
theorem sliced_0 (g n cap : Nat) : sliced (some ⟨g, 0, none⟩) 0 n cap 1 = .slice (some ⟨g, 0, none⟩) n cap := by
  unfold sliced
  simp [Addr.add]
end Go.Proofs.YteffpgodookebaaGreat
namespace Go.Proofs.YteffpgodookebaaGreat
set_option maxRecDepth 100000
open Go.RowKit
set_option linter.unusedVariables false

/-- The numbers that bytes consist of. -/
def nus (b : List Nat) : Option (List Int) := if b = [] then some [] else if h : nOK b = true then (nus (b.drop (nS b))).map (nV b :: ·) else none
termination_by b.length
decreasing_by
  have := nS_le h
  rw [List.length_drop]
  omega
theorem nus_nil : nus [] = some [] := by rw [nus, if_pos rfl]
theorem nOK_ne {b : List Nat} (h : nOK b = true) : b ≠ [] := by
  intro e
  subst e
  simp [nOK] at h
theorem nus_go {b : List Nat} (h : nOK b = true) : nus b = (nus (b.drop (nS b))).map (nV b :: ·) := by rw [nus, if_neg (nOK_ne h), dif_pos h]
theorem nus_no {b : List Nat} (h0 : b ≠ []) (h : nOK b = false) : nus b = none := by rw [nus, if_neg h0, dif_neg (by simp [h])]
theorem nus_put (ns : List Int) (h : In64 ns) : nus (numsB ns) = some ns := by
  induction ns with
  | nil => exact nus_nil
  | cons n r ih =>
    have h1 := h n (List.mem_cons_self ..)
    obtain ⟨a, b, c⟩ := num_put n (numsB r) h1.1 h1.2
    have e : numsB (n :: r) = numB n ++ numsB r := by simp [numsB]
    rw [e, nus_go a, b, c, List.drop_append_of_le_length (Nat.le_refl _), List.drop_length, List.nil_append, ih (fun x hx => h x (List.mem_cons_of_mem _ hx))]
    rfl
/-- At most so many. -/
def numsR (b : List Nat) (most : Int) : Option (List Int) := (nus b).bind fun r => if 0 < r.length ∧ most < (r.length : Int) then none else some r
theorem numsR_some {b : List Nat} {most : Int} {done : List Int} (h : nus b = some done) (hm : done = [] ∨ (done.length : Int) ≤ most) : numsR b most = some done := by
  rw [numsR, h, Option.bind_some, if_neg]
  rintro ⟨h1, h2⟩
  rcases hm with rfl | hm
  · simp at h1
  · omega
theorem numsR_none {b : List Nat} {most : Int} (h : nus b = none) : numsR b most = none := by rw [numsR, h, Option.bind_none]
theorem numsR_full {b rest : List Nat} {most : Int} {done : List Int} (h : nus b = (nus rest).map (done ++ ·)) (hok : nOK rest = true) (hm : most ≤ (done.length : Int)) : numsR b most = none := by
  rw [numsR, h, nus_go hok]
  cases nus (rest.drop (nS rest)) with
  | none => rfl
  | some r =>
    simp only [Option.map_some, Option.bind_some]
    rw [if_pos]
    simp
    omega
theorem nus_step {b rest : List Nat} {done : List Int} (h : nus b = (nus rest).map (done ++ ·)) (hok : nOK rest = true) : nus b = (nus (rest.drop (nS rest))).map ((done ++ [nV rest]) ++ ·) := by
  rw [h, nus_go hok]
  cases nus (rest.drop (nS rest)) with
  | none => rfl
  | some r => simp
/-- What Nums answers. -/
structure NP (W : World) (base : Nat) (r : Option (List Int)) (e : Ending) : Prop where
  some : ∀ x, r = some x → ∃ v', e = .returned (.tuple #[v', .nilIface]) ∧ Io W base v' x
  none : r = none → e = .returned (.tuple #[.slice none 0 0, Err 3])
/-- How long a slice is. -/
def slLen : Value → Nat
  | .slice _ n _ => n
  | _ => 0
theorem Sl.slLen {W : World} {v : Value} {l : List Nat} (h : Sl W v l) : slLen v = l.length := by
  obtain ⟨q, cap, rfl, _⟩ := h
  rfl
theorem Io.form {W : World} {base : Nat} {v : Value} {l : List Int} (h : Io W base v l) : ∃ q cap, v = .slice q l.length cap := by
  obtain ⟨q, cap, g, off, e, _⟩ := h.is
  exact ⟨q, cap, e⟩

section
variable {ops : Array Oper} {rest : List Oper} {o : Oper} {a : Act} {w : World} {Q : Exit → Act → World → Prop}
/-- 'b[i:]' of bytes that an earlier world holds. -/
theorem slb_l' (V : World) (hw : Region.wanted o (yielded ops a.tmps) = true) {x y : Operand} (ho : o.op = .slice 65 x (some y) none none) {q : Option Addr} {n cap : Nat} {I : Int} {ki : IntKind} {l : List Nat} (i : Nat)
    (hx : a.eval x = .slice q n cap) (hy : a.eval y = .int ki I) (hI : I = (i : Int)) (h1 : i ≤ n) (hsl : Sl V (.slice q n cap) l)
    (hK : ∀ q', Sl V (.slice q' (n - i) (cap - i)) (l.drop i) → wpList Tryz.prog ops Q rest (a.put o.dst (.slice q' (n - i) (cap - i))) w) : wpList Tryz.prog ops Q (o :: rest) a w := by
  have hc := hsl.len
  obtain ⟨q', e⟩ := sliced_form q i n cap
  have hr := slb_l_run (w := w) ho hx hy hI h1 hc.2.1
  rw [e] at hr
  refine valS hw _ hr (hK q' ?_)
  have := hsl.sub h1 (Nat.le_refl _) (Nat.le_refl _) hc.2.1 e.symm
  rwa [List.take_of_length_le (by rw [List.length_drop]; omega)] at this
end
set_option maxHeartbeats 1000000 in
theorem fnums_any (v : Value) (l : List Nat) (most : Int) (w : World) (hv : Sl w v l) (hb : Byt l) (hl : l.length ≤ 100000) :
    Calls Tryz.prog 120 #[v, .int .i64 most] w fun e w' => NP w' w.heap.size (numsR l most) e ∧ Below w.heap.size w w' := by
  obtain ⟨q, cap, e, -⟩ := id hv
  subst e
  generalize hn : l.length = n at *
  go_enter Tryz.func120, Tryz.ntmps120
  go_wp2_with fail
  go_loopw [0, 6] (fun x y wr => ∃ rest done, Sl w x rest ∧ Byt rest ∧ Io wr w.heap.size y done ∧ nus l = (nus rest).map (done ++ ·) ∧ (done = [] ∨ (done.length : Int) ≤ most) ∧ done.length + rest.length ≤ n ∧ Below w.heap.size w wr) (fun x _ _ => slLen x)
  case atStart => exact ⟨l, [], hv, hb, io_of (World.ownsRow_nil w _ _ _), by simp, .inl rfl, by simp [hn], Below.refl _ _⟩
  case round =>
    obtain ⟨rest, done, S, B, O, HN, HM, hlen, hbw⟩ := hrel
    obtain ⟨q2, cap2, e, -⟩ := id S
    subst e
    have Sr := S.keep hbw
    obtain ⟨q3, cap3, e⟩ := O.form
    subst e
    have HN' : Hid (nus l = (nus rest).map (done ++ ·)) := HN
    have HM' : Hid (done = [] ∨ (done.length : Int) ≤ most) := HM
    clear HN HM
    by_cases c : rest = []
    · subst c
      have HR : Hid (numsR l most = some done) := numsR_some (by rw [HN'.out, nus_nil]; simp) HM'.out
      go_wp2_with fail
      go_ret2
      refine ⟨⟨fun x hx => ?_, fun hx => by rw [HR.out] at hx; cases hx⟩, hbw⟩
      rw [HR.out] at hx
      cases hx
      exact ⟨_, rfl, O⟩
    · have hpos : 0 < rest.length := List.length_pos_iff.2 c
      generalize hr : rest.length = m at *
      generalize hd : done.length = k at *
      have hmi : (0 : Int) < (m : Int) := by omega
      cases hok : nOK rest with
      | false =>
        have HR : Hid (numsR l most = none) := numsR_none (by rw [HN'.out, nus_no c hok]; rfl)
        go_wp2_with (go_at_call 147; refine (number_no _ _ _ Sr B hok).mono ?_; rintro e W2 ⟨rfl, rfl⟩)
        go_ret2
        exact ⟨⟨fun x hx => (by rw [HR.out] at hx; cases hx), fun _ => rfl⟩, hbw⟩
      | true =>
        by_cases hmost : most ≤ (k : Int)
        · have HR : Hid (numsR l most = none) := numsR_full HN'.out hok (by rw [hd]; exact hmost)
          go_wp2_with (go_at_call 147; refine (number_ok _ _ _ Sr B hok).mono ?_; rintro e W2 ⟨rfl, rfl⟩)
          go_ret2
          exact ⟨⟨fun x hx => (by rw [HR.out] at hx; cases hx), fun _ => rfl⟩, hbw⟩
        · have HS : Hid (nus l = (nus (rest.drop (nS rest))).map ((done ++ [nV rest]) ++ ·)) := nus_step HN'.out hok
          have hnS := nS_le hok
          have hbd := B.drop (nS rest)
          have HL : Hid ((rest.drop (nS rest)).length = m - nS rest) := by show _ = _; rw [List.length_drop, hr]
          have HD : Hid ((done ++ [nV rest]).length = k + 1) := by show _ = _; rw [List.length_append, hd]; rfl
          have HK : Hid (done.length + 1 ≤ 1000000) := by show _ ≤ _; omega
          have HNO : Hid (∀ W, Sl W (.slice q2 m cap2) rest → Calls Tryz.prog 147 #[.slice q2 m cap2] W fun e w' => e = .returned (.tuple #[.int .i64 (nV rest), .int .i64 ((nS rest : Nat) : Int), .bool true]) ∧ w' = W) := fun W h => number_ok _ _ W h B hok
          rw [hr] at hnS
          generalize hV : nV rest = x at *
          generalize hSz : nS rest = sz at *
          clear hok
          go_upto_region 6 with (go_at_call 147; refine (HNO.out _ Sr).mono ?_; rintro e W2 ⟨rfl, rfl⟩)
          have O2 : W2.ownsRow w.heap.size 3 1 (.slice q3 k cap3) k (ints done) := by
            have := O
            unfold Io at this
            rwa [hd] at this
          go_wp2_with (first
            | (refine bs_own rfl rfl [x] (by simp only [List.map_toArray, List.map_cons, List.map_nil]; rfl) (isl1 _ _) rfl (by decide) ?_; intro V3 hN3 hb3 z3)
            | (at_builtin; refine app_i _ rfl rfl rfl (own_keep O2 hb3) rfl (own_is hN3) rfl (by show k + 1 ≤ _; omega) (ab_trans hbw hb3) ?_; intro v4 V4 hown4 hnil4 hb4 hgr4 hat4)
            | (refine slb_l' w rfl rfl sz rfl rfl rfl hnS.1 S ?_; intro q5 s5))
          refine ⟨⟨rest.drop sz, done ++ [x], s5, hbd, io_of hown4, HS.out, .inr ?_, ?_, hb4⟩, ?_⟩
          · rw [HD.out]; omega
          · rw [HD.out, HL.out]; omega
          · simp only [slLen]; omega
end Go.Proofs.YteffpgodookebaaGreat
namespace Go.Proofs.YteffpgodookebaaGreat
set_option maxRecDepth 100000
open Go.RowKit
set_option linter.unusedVariables false

/-- The mark of a place of a list. -/
def mk1 (k j : Nat) : Nat := (29 * k + 5 * j + 3) % 256
theorem mk1_lt (k j : Nat) : mk1 k j < 256 := Nat.mod_lt _ (by decide)
theorem mk1_cast (k j : Nat) : (29 * (k : Int) + 5 * (j : Int) + 3) % 256 = ((mk1 k j : Nat) : Int) := by unfold mk1; omega
/-- A list's marks. -/
def mrk (k : Nat) : Nat → List Nat
  | 0 => []
  | n + 1 => mrk k n ++ [mk1 k n]
theorem mrk_len (k n : Nat) : (mrk k n).length = n := by
  induction n with
  | zero => rfl
  | succ n ih => simp [mrk, ih]
theorem mrk_at (k n j : Nat) (h : j < n) : (mrk k n)[j]? = some (mk1 k j) := by
  induction n with
  | zero => omega
  | succ n ih =>
    rw [mrk]
    by_cases c : j < n
    · rw [List.getElem?_append_left (by rw [mrk_len]; exact c)]; exact ih c
    · have e : j = n := by omega
      subst e
      rw [List.getElem?_append_right (by rw [mrk_len]; exact Nat.le_refl _), mrk_len]; simp
theorem mrk_take (k n m : Nat) (h : m ≤ n) : (mrk k n).take m = mrk k m := by
  apply List.ext_getElem?
  intro j
  by_cases c : j < m
  · rw [List.getElem?_take_of_lt c, mrk_at k n j (by omega), mrk_at k m j c]
  · rw [List.getElem?_eq_none (by rw [List.length_take, mrk_len]; omega), List.getElem?_eq_none (by rw [mrk_len]; omega)]
/-- A list whose first places are marked. -/
def mix (k j : Nat) (l : List Nat) : List Nat := mrk k j ++ l.drop j
theorem mix_zero (k : Nat) (l : List Nat) : mix k 0 l = l := by simp [mix, mrk]
theorem mix_full (k : Nat) (l : List Nat) : mix k l.length l = mrk k l.length := by simp [mix]
theorem mix_len (k j : Nat) (l : List Nat) (h : j ≤ l.length) : (mix k j l).length = l.length := by
  unfold mix
  rw [List.length_append, mrk_len, List.length_drop]
  omega
theorem mix_set (k j : Nat) (l : List Nat) (h : j < l.length) : (mix k j l).set j (mk1 k j) = mix k (j + 1) l := by
  unfold mix
  rw [List.set_append_right _ _ (by rw [mrk_len]; exact Nat.le_refl _), mrk_len, Nat.sub_self, List.drop_eq_getElem_cons h, List.set_cons_zero, mrk, List.append_assoc]
  rfl
/-- Slices kept where another block grows. -/
theorem sl_kept {W W' : World} {v x : Value} {l : List Nat} (h : Sl W v l) (hs : Sep v x) (hg : W.grownBy W' x.ownBlock) : Sl W' v l := by
  obtain ⟨q, cap, rfl, h1, h2, h3⟩ := h
  refine ⟨q, cap, rfl, h1, h2, fun h0 => ?_⟩
  obtain ⟨g, off, rfl, hgl, hr⟩ := h3 h0
  refine ⟨g, off, rfl, Nat.lt_of_lt_of_le hgl hg.size, fun j y hy => ?_⟩
  exact hg.cell (hr j y hy) (fun e => hs g rfl e.symm)
/-- The beginning of an own slice. -/
theorem sl_pre {W : World} {base g n cap : Nat} {v : Value} {k m : Nat} (hv : Ow W base v (mrk k m)) (hb : v.ownBlock = some g) (hn : n ≤ m) (hc : n ≤ cap) (hm : cap ≤ maxLen) : Sl W (.slice (some ⟨g, 0, none⟩) n cap) (mrk k n) := by
  refine sl_of (mrk_len k n) hc hm (fun _ => rfl) (fun _ => (hv.lt g hb).2) (fun j x hx => ?_)
  have hj : j < n := by have := (List.getElem?_eq_some_iff.1 hx).1; rwa [mrk_len] at this
  rw [mrk_at k n j hj] at hx
  have := World.ownsRow.cells hv hb j (.int .u8 ((x : Nat) : Int)) (by rw [bys_at, mrk_at k m j (by omega), hx]; rfl)
  rwa [Addr.add_mid] at this
/-- The shape of an own slice. -/
def Shp (v : Value) (n : Nat) : Prop := v = .slice none 0 0 ∧ n = 0 ∨ ∃ g cap, v = .slice (some ⟨g, 0, none⟩) n cap ∧ n ≤ cap ∧ cap ≤ maxLen
theorem Ow.shp {W : World} {base : Nat} {v : Value} {l : List Nat} (h : Ow W base v l) : Shp v l.length := by
  rcases h.2 with ⟨h1, h2⟩ | ⟨g, cap, cur, h1, _, _, h2, h3, _⟩
  · exact .inl ⟨h1, h2⟩
  · exact .inr ⟨g, cap, h1, h2, h3⟩
/-- append of bytes: where it moves, all that was there stays. -/
theorem app_run2 {w : World} (A : World) (ty : TypeId) {v vx : Value} {n k : Nat} {l m : List Nat} (hown : w.ownsRow A.heap.size 5 1 v n (bys l)) (hsl : Sl w vx m) (hm : m.length = k) (h63 : n + k ≤ 1000000) (hA : Below A.heap.size A w) :
    ∃ v' w', (Builtin.append_ #[65, 65] ty #[v, vx]).run Tryz.prog w = .ok v' w' ∧ w'.ownsRow A.heap.size 5 1 v' (n + k) (bys (l ++ m)) ∧ Below A.heap.size A w' ∧ w.grownBy w' v.ownBlock ∧ (v'.ownBlock = v.ownBlock ∨ v'.ownBlock = some w.heap.size ∧ w.grownBy w' none) := by
  obtain ⟨v', w', hr, h1, h2, h3, h4, h5⟩ := app_run A ty hown hsl hm h63 hA
  refine ⟨v', w', hr, h1, h3, h4, ?_⟩
  rcases h5 with h5 | h5
  · exact .inl h5
  · rcases hown.2 with ⟨rfl, _⟩ | ⟨g, cap, cur, rfl, hbg, hg, hnc, hcm, hcs, htake⟩
    · exact .inr ⟨h5, h4⟩
    · obtain ⟨i, hi, hz0, hz1, hz2⟩ := info_parts infoByte
      subst hm
      obtain ⟨q, c, rfl, hq, hsrc⟩ := hsl.src
      by_cases hroom : n + m.length ≤ cap
      · left
        cases q with
        | none =>
          have h0 := hq rfl
          have hm0 : m = [] := List.eq_nil_of_length_eq_zero h0
          subst hm0
          have := append_none (P := Tryz.prog) w A.heap.size 65 ty 5 i 1 c Tryz.underlying65 hi _ n (bys l) hown
          rw [show ([] : List Nat).length = 0 from rfl, this] at hr
          cases hr
          rfl
        | some ad =>
          have := run_append_room (P := Tryz.prog) w 65 ty 5 i Tryz.underlying65 hi g n cap cur hg ad m.length c (bys m) (by rw [bys_len, hz1, Nat.mul_one]) (hsrc ad rfl) (bys_one m) hroom (by rw [bys_len, hz1, hcs]; omega)
          rw [this] at hr
          cases hr
          rfl
      · right
        cases q with
        | none =>
          have h0 := hq rfl
          omega
        | some ad =>
          have := run_append_grow (P := Tryz.prog) w 65 ty 5 i _ Tryz.underlying65 hi hz0 ⟨g, 0, none⟩ n cap (bys l) (by rw [hz1]; exact hown.1) (World.ownsRow.cells hown (g := g) rfl) ad m.length c (bys m) (by rw [bys_len, hz1, Nat.mul_one]) (hsrc ad rfl) (by omega) (by omega) (growslice_fits (by omega) (by rw [hz2]; omega))
          rw [this] at hr
          cases hr
          exact ⟨rfl, ⟨rfl, rfl, rfl, by simp, fun b hb _ => heap_alloc_old w.drew _ hb⟩⟩
section
variable {ops : Array Oper} {rest : List Oper} {o : Oper} {a : Act} {w : World} {Q : Exit → Act → World → Prop}
theorem app_by2 (A : World) (hw : Region.wanted o (yielded ops a.tmps) = true) {s x : Operand} (ho : o.op = .call { callee := .builtin .append, args := #[s, x], argTypes := #[65, 65] })
    {v vx : Value} {n k : Nat} {l m : List Nat} (hs : a.eval s = v) (hown : w.ownsRow A.heap.size 5 1 v n (bys l)) (hx : a.eval x = vx) (hsl : Sl w vx m) (hm : m.length = k) (h63 : n + k ≤ 1000000) (hA : Below A.heap.size A w)
    (h : ∀ v' w', w'.ownsRow A.heap.size 5 1 v' (n + k) (bys (l ++ m)) → Below A.heap.size A w' → w.grownBy w' v.ownBlock → (v'.ownBlock = v.ownBlock ∨ v'.ownBlock = some w.heap.size ∧ w.grownBy w' none) → wpList Tryz.prog ops Q rest (a.put o.dst v') w') : wpList Tryz.prog ops Q (o :: rest) a w := by
  unfold wpList
  rw [if_pos hw]
  left
  obtain ⟨v', w', hr, h1, h2, h3, h4⟩ := app_run2 A o.type hown hsl hm h63 hA
  unfold Oper.wp execOp
  simp only [ho, resolve, invoke, builtin, Sem.run_bind, Sem.run_pure, Result.andThen_ok, List.map_toArray, List.map_cons, List.map_nil, hs, hx, hr]
  exact h v' w' h1 h2 h3 h4
end
/-- Lists V, the first k of which have been grown to U; y holds these; gv holds V. From o on V are still as they were. -/
structure Gr (W : World) (base : Nat) (gv y : Value) (n o k : Nat) (V U : Nat → Value) (len : Nat → Nat) : Prop where
  own : ∀ j, o ≤ j → j < n → Ow W base (V j) (mrk j (len j))
  rd : ∀ j, j < o → j < n → Sl W (V j) (mrk j (len j))
  grw : ∀ j, j < k → Ow W base (U j) (mrk j (len j + 10))
  lt : ∀ j, j < n → ∀ b, (V j).ownBlock = some b → b < W.heap.size
  vv : ∀ i j, i < n → j < n → i ≠ j → Sep (V i) (V j)
  uv : ∀ i j, i < k → j < n → i ≠ j → Sep (U i) (V j)
  uu : ∀ i j, i < k → j < k → i ≠ j → Sep (U i) (U j)
  yv : ∀ j, j < n → Sep y (V j)
  yu : ∀ j, j < k → Sep y (U j)
  gw : ∀ j, j < n → Sep gv (V j)
  gu : ∀ j, j < k → Sep gv (U j)
  gy : Sep gv y
theorem Gr.keep {W W' : World} {base : Nat} {gv y : Value} {n o k : Nat} {V U : Nat → Value} {len : Nat → Nat} (h : Gr W base gv y n o k V U len) (hb : Below W.heap.size W W') : Gr W' base gv y n o k V U len :=
  ⟨fun j h1 h2 => (h.own j h1 h2).keep hb, fun j h1 h2 => (h.rd j h1 h2).keep hb, fun j h1 => (h.grw j h1).keep hb, fun j h1 b hb2 => Nat.lt_of_lt_of_le (h.lt j h1 b hb2) hb.size, h.vv, h.uv, h.uu, h.yv, h.yu, h.gw, h.gu, h.gy⟩
/-- A list is read from now on. -/
theorem Gr.next {W : World} {base : Nat} {gv y : Value} {n o k : Nat} {V U : Nat → Value} {len : Nat → Nat} (h : Gr W base gv y n o k V U len) : Gr W base gv y n (o + 1) k V U len :=
  ⟨fun j h1 h2 => h.own j (by omega) h2, fun j h1 h2 => by
    by_cases c : j < o
    · exact h.rd j c h2
    · exact (h.own j (by omega) h2).sl, h.grw, h.lt, h.vv, h.uv, h.uu, h.yv, h.yu, h.gw, h.gu, h.gy⟩
/-- A block of none of them grows. -/
structure Apt (gv y x : Value) (n k c : Nat) (V U : Nat → Value) : Prop where
  v : ∀ j, j < n → j ≠ c → Sep (V j) x
  u : ∀ j, j < k → Sep (U j) x
  y : Sep y x
  g : Sep gv x
theorem Gr.kept {W W' : World} {base : Nat} {gv y x : Value} {n k : Nat} {V U : Nat → Value} {len : Nat → Nat} (h : Gr W base gv y n (k + 1) k V U len) (hx : Apt gv y x n k k V U) (hg : W.grownBy W' x.ownBlock) (hr : k < n → Sl W' (V k) (mrk k (len k))) : Gr W' base gv y n (k + 1) k V U len :=
  ⟨fun j h1 h2 => (h.own j h1 h2).kept hg (hx.v j h2 (by omega)), fun j h1 h2 => by
    by_cases c : j = k
    · subst c; exact hr h2
    · exact sl_kept (h.rd j h1 h2) (hx.v j h2 c) hg, fun j h1 => (h.grw j h1).kept hg (hx.u j h1), fun j h1 b hb2 => Nat.lt_of_lt_of_le (h.lt j h1 b hb2) hg.size, h.vv, h.uv, h.uu, h.yv, h.yu, h.gw, h.gu, h.gy⟩
theorem Apt.at {W : World} {base : Nat} {gv y x x' : Value} {n o k c : Nat} {V U : Nat → Value} {len : Nat → Nat} (h : Apt gv y x n k c V U) (hG : Gr W base gv y n o k V U len) (hy : ∀ b, y.ownBlock = some b → b < W.heap.size) (hg : ∀ b, gv.ownBlock = some b → b < W.heap.size) (hat : x'.ownBlock = x.ownBlock ∨ x'.ownBlock = some W.heap.size) : Apt gv y x' n k c V U :=
  ⟨fun j h1 h2 => sep_at (h.v j h1 h2) (hG.lt j h1) hat, fun j h1 => sep_at (h.u j h1) (fun b hb => ((hG.grw j h1).lt b hb).2) hat, sep_at h.y hy hat, sep_at h.g hg hat⟩
/-- A list that has been grown is put with the others. -/
theorem Gr.put {W W' : World} {base : Nat} {gv y y' x : Value} {n k : Nat} {V U : Nat → Value} {len : Nat → Nat} (h : Gr W base gv y n (k + 1) k V U len) (hx : Apt gv y x n k k V U) (hO : Ow W base x (mrk k (len k + 10))) (hg : W.grownBy W' y.ownBlock) (hat : y'.ownBlock = y.ownBlock ∨ y'.ownBlock = some W.heap.size)
    (hgv : ∀ b, gv.ownBlock = some b → b < W.heap.size) : Gr W' base gv y' n (k + 1) (k + 1) V (fun j => if j = k then x else U j) len := by
  have hU : ∀ j, j < k + 1 → (j = k ∧ (if j = k then x else U j) = x) ∨ (j < k ∧ (if j = k then x else U j) = U j) := fun j hj => by
    by_cases c : j = k
    · exact .inl ⟨c, by rw [if_pos c]⟩
    · exact .inr ⟨by omega, by rw [if_neg c]⟩
  refine ⟨fun j h1 h2 => (h.own j h1 h2).kept hg (h.yv j h2).symm, fun j h1 h2 => sl_kept (h.rd j h1 h2) (h.yv j h2).symm hg, fun j h1 => ?_, fun j h1 b hb2 => Nat.lt_of_lt_of_le (h.lt j h1 b hb2) hg.size, h.vv, fun i j h1 h2 h3 => ?_, fun i j h1 h2 h3 => ?_, fun j h1 => (sep_at (h.yv j h1).symm (h.lt j h1) hat).symm, fun j h1 => ?_, h.gw, fun j h1 => ?_, sep_at h.gy hgv hat⟩
  · show Ow W' base (if j = k then x else U j) (mrk j (len j + 10))
    rcases hU j h1 with ⟨e, e2⟩ | ⟨e, e2⟩
    · rw [e2, e]; exact hO.kept hg hx.y.symm
    · rw [e2]; exact (h.grw j e).kept hg (h.yu j e).symm
  · show Sep (if i = k then x else U i) (V j)
    rcases hU i h1 with ⟨e, e2⟩ | ⟨e, e2⟩
    · rw [e2]; exact (hx.v j h2 (by omega)).symm
    · rw [e2]; exact h.uv i j e h2 h3
  · show Sep (if i = k then x else U i) (if j = k then x else U j)
    rcases hU i h1 with ⟨e, e2⟩ | ⟨e, e2⟩ <;> rcases hU j h2 with ⟨f, f2⟩ | ⟨f, f2⟩
    · omega
    · rw [e2, f2]; exact (hx.u j f).symm
    · rw [e2, f2]; exact hx.u i e
    · rw [e2, f2]; exact h.uu i j e f h3
  · show Sep y' (if j = k then x else U j)
    rcases hU j h1 with ⟨e, e2⟩ | ⟨e, e2⟩
    · rw [e2]; exact (sep_at hx.y.symm (fun b hb => (hO.lt b hb).2) hat).symm
    · rw [e2]; exact (sep_at (h.yu j e).symm (fun b hb => ((h.grw j e).lt b hb).2) hat).symm
  · show Sep gv (if j = k then x else U j)
    rcases hU j h1 with ⟨e, e2⟩ | ⟨e, e2⟩
    · rw [e2]; exact hx.g
    · rw [e2]; exact h.gu j e
end Go.Proofs.YteffpgodookebaaGreat
namespace Go.Proofs.YteffpgodookebaaGreat
set_option maxRecDepth 100000
open Go.RowKit
set_option linter.unusedVariables false

/-- Lists of their own, and the row that holds them. -/
structure Bg (W : World) (base gl off n : Nat) (V : Nat → Value) (c : Nat → List Nat) : Prop where
  own : ∀ j, j < n → Ow W base (V j) (c j)
  row : ∀ j, j < n → W.cell? ⟨gl, off + j, none⟩ = some (V j)
theorem Bg.same {W : World} {base gl off n : Nat} {V : Nat → Value} {c d : Nat → List Nat} (h : Bg W base gl off n V c) (he : ∀ j, j < n → c j = d j) : Bg W base gl off n V d :=
  ⟨fun j hj => by rw [← he j hj]; exact h.own j hj, h.row⟩
/-- The first k marked; of the k-th the first t places. -/
def cI (C : Nat → List Nat) (k t j : Nat) : List Nat := if j < k then mrk j (C j).length else if j = k then mix k t (C k) else C j
theorem cI_next (C : Nat → List Nat) (k j : Nat) : cI C k (C k).length j = cI C (k + 1) 0 j := by
  unfold cI
  by_cases c : j < k
  · rw [if_pos c, if_pos (by omega)]
  · by_cases d : j = k
    · subst d
      rw [if_neg c, if_pos rfl, if_pos (by omega), mix_full]
    · rw [if_neg c, if_neg d, if_neg (by omega)]
      by_cases e : j = k + 1
      · subst e; rw [if_pos rfl, mix_zero]
      · rw [if_neg e]
theorem Bg.store {W : World} {base gl off n k t g cap : Nat} {V : Nat → Value} {C : Nat → List Nat} (h : Bg W base gl off n V (cI C k t)) (hk : k < n) (ht : t < (C k).length) (hv : V k = .slice (some ⟨g, 0, none⟩) (C k).length cap) (hs : ∀ i, i < n → i ≠ k → Sep (V i) (V k)) (hg : gl ≠ g) :
    Bg (W.setCell ⟨g, t, none⟩ (.int .u8 ((mk1 k t : Nat) : Int))) base gl off n V (cI C k (t + 1)) := by
  have hO := h.own k hk
  have e : cI C k t k = mix k t (C k) := by unfold cI; rw [if_neg (by omega), if_pos rfl]
  rw [e, hv] at hO
  have hO2 : W.ownsRow base 5 1 (.slice (some ⟨g, 0, none⟩) (C k).length cap) (C k).length (bys (mix k t (C k))) := by
    unfold Ow at hO
    rwa [mix_len k t (C k) (by omega)] at hO
  obtain ⟨h1, h2⟩ := hO2.stored t (.int .u8 ((mk1 k t : Nat) : Int))
  rw [bys_set, mix_set k t (C k) ht] at h1
  refine ⟨fun j hj => ?_, fun j hj => h2.cell (h.row j hj) (fun e => hg (by simpa using e))⟩
  by_cases c : j = k
  · subst c
    have e2 : cI C j (t + 1) j = mix j (t + 1) (C j) := by unfold cI; rw [if_neg (by omega), if_pos rfl]
    rw [e2, hv]
    exact ow_of h1
  · have e2 : cI C k (t + 1) j = cI C k t j := by unfold cI; rw [if_neg c, if_neg c]
    rw [e2]
    have hsj := hs j hj c
    rw [hv] at hsj
    exact (h.own j hj).kept (x := .slice (some ⟨g, 0, none⟩) (C k).length cap) h2 hsj
theorem bsl0 (w : World) : (Instr.buildSlice 100 0 #[]).run Tryz.prog w = .ok (.slice (some ⟨w.heap.size, 0, none⟩) 0 0) (w.alloc (.cells #[] 65)) := by kernel_rfl
section
variable {ops : Array Oper} {rest : List Oper} {o : Oper} {a : Act} {w : World} {Q : Exit → Act → World → Prop}
/-- '[][]byte{}'. -/
theorem bs_l0 (A : World) (hA : A.heap.size ≤ w.heap.size) (hw : Region.wanted o (yielded ops a.tmps) = true) (ho : o.op = .buildSlice 100 0 #[])
    (h : ∀ W', W'.ownsRow A.heap.size 65 1 (.slice (some ⟨w.heap.size, 0, none⟩) 0 0) 0 [] → Below w.heap.size w W' → wpList Tryz.prog ops Q rest (a.put o.dst (.slice (some ⟨w.heap.size, 0, none⟩) 0 0)) W') : wpList Tryz.prog ops Q (o :: rest) a w := by
  unfold wpList
  rw [if_pos hw]
  left
  unfold Oper.wp execOp
  have hl : (#[] : Array (Nat × Operand)).map (fun (i, x) => (i, a.eval x)) = #[] := by simp
  simp only [ho, Sem.run_bind, hl, bsl0, Result.andThen_ok]
  exact h _ (own_empty w A 65 1 hA) ((Below.refl _ _).alloc (Nat.le_refl _) _)
end
/-- What was read is read, where the list that grew out of it grows on. -/
theorem rd_step {W W' : World} {base k m t : Nat} {v x x' : Value} (hs : Shp v m) (hv : Sl W v (mrk k m)) (hO : Ow W' base x' (mrk k (m + t))) (hg : W.grownBy W' x.ownBlock) (hat : x'.ownBlock = x.ownBlock ∨ x'.ownBlock = some W.heap.size ∧ W.grownBy W' none) : Sl W' v (mrk k m) := by
  rcases hs with ⟨rfl, rfl⟩ | ⟨g, cap, rfl, hc, hm⟩
  · exact sl_nil W'
  · by_cases c : x.ownBlock = some g
    · rcases hat with e | ⟨_, e⟩
      · exact sl_pre hO (e.trans c) (by omega) hc hm
      · exact sl_kept (x := .slice none 0 0) hv (fun b hb he => by cases he) e
    · refine sl_kept (x := x) hv (fun b hb he => ?_) hg
      simp [Value.ownBlock] at hb
      exact c (by rw [he, hb])

/-- How long a slice is. -/
def slLen2 : Value → Nat
  | .slice _ n _ => n
  | _ => 0
end Go.Proofs.YteffpgodookebaaGreat
