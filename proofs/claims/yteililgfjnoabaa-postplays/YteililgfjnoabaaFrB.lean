/-
  frame.number and frame.inside.
-/
import Derived.Test.YteililgfjnoabaaFrA
namespace Go.Proofs.Yteililgfjnoabaa
open Go.RowKit
set_option linter.unusedVariables false

theorem getD_at {l : List Nat} {j : Nat} (h : j < l.length) : l[j]? = some (l.getD j 0) := by
  rw [List.getD_eq_getElem?_getD, List.getElem?_eq_getElem h]; rfl
/-- A part of a slice. -/
theorem Sl.sub {W : World} {q : Option Addr} {n cap : Nat} {l : List Nat} (h : Sl W (.slice q n cap) l) {i j sc : Nat} {v : Value} (hij : i ≤ j) (hjn : j ≤ n) (hsc : sc ≤ cap) (hjc : j ≤ sc) (hv : v = sliced q i j sc 1) : Sl W v ((l.drop i).take (j - i)) := by
  obtain ⟨q', cap', e, h1, h2, h3⟩ := h
  cases e
  have hl : ((l.drop i).take (j - i)).length = j - i := by rw [List.length_take, List.length_drop]; omega
  subst hv
  unfold sliced
  by_cases c : sc = i
  · rw [if_pos c]
    refine ⟨q, sc - i, by rw [hl], by omega, by unfold maxLen at *; omega, fun h0 => ?_⟩
    rw [hl] at h0
    omega
  · rw [if_neg c]
    refine ⟨_, sc - i, by rw [hl], by omega, by unfold maxLen at *; omega, fun h0 => ?_⟩
    rw [hl] at h0
    obtain ⟨g, off, rfl, hg, hr⟩ := h3 (by omega)
    refine ⟨g, off + i, by rw [Option.map_some, Addr.add_mid, Nat.mul_one], hg, brow_take (brow_drop hr i) _⟩
theorem sizeB (w : World) : (sizeOf (Try.prog.elem 34)).run Try.prog w = .ok 1 w := by kernel_rfl
theorem sizeB' (w : World) : (sizeOf 5).run Try.prog w = .ok 1 w := by kernel_rfl
theorem eltB : Try.prog.underlying 34 = some (.slice (Try.prog.elem 34)) := by kernel_rfl
section
variable {ops : Array Oper} {rest : List Oper} {o : Oper} {a : Act} {w : World} {Q : Exit → Act → World → Prop}
theorem slb_lh_run {ρ : Operand → Value} {x y z : Operand} (ho : o.op = .slice 34 x (some y) (some z) none) {q : Option Addr} {n cap i j : Nat} {I J : Int} {ki kj : IntKind}
    (hx : ρ x = .slice q n cap) (hy : ρ y = .int ki I) (hz : ρ z = .int kj J) (hI : I = (i : Int)) (hJ : J = (j : Int)) (h1 : i ≤ j) (h2 : j ≤ cap) : (execOp ρ o).run Try.prog w = .ok (.value (sliced q i j cap 1)) w := by
  subst hI; subst hJ
  unfold execOp
  simp only [ho, hx, hy, hz, Option.map_some, Option.map_none, Sem.run_bind, run_sliceAt_slice w 34 _ _ _ _ eltB, run_slice_lh w 34 q n cap eltB _ _ (i : Int) (j : Int) (by omega) (by omega) (by omega), sizeB, Result.andThen_ok, Sem.run_pure, Int.toNat_natCast]
theorem slb_l_run {ρ : Operand → Value} {x y : Operand} (ho : o.op = .slice 34 x (some y) none none) {q : Option Addr} {n cap i : Nat} {I : Int} {ki : IntKind}
    (hx : ρ x = .slice q n cap) (hy : ρ y = .int ki I) (hI : I = (i : Int)) (h1 : i ≤ n) (h2 : n ≤ cap) : (execOp ρ o).run Try.prog w = .ok (.value (sliced q i n cap 1)) w := by
  subst hI
  unfold execOp
  simp only [ho, hx, hy, Option.map_some, Option.map_none, Sem.run_bind, run_sliceAt_slice w 34 _ _ _ _ eltB, run_slice_l w 34 q n cap eltB _ (i : Int) (by omega) (by omega), sizeB, Result.andThen_ok, Sem.run_pure, Int.toNat_natCast]
theorem slb_h_run {ρ : Operand → Value} {x z : Operand} (ho : o.op = .slice 34 x none (some z) none) {q : Option Addr} {n cap j : Nat} {J : Int} {kj : IntKind}
    (hx : ρ x = .slice q n cap) (hz : ρ z = .int kj J) (hJ : J = (j : Int)) (h2 : j ≤ cap) : (execOp ρ o).run Try.prog w = .ok (.value (sliced q 0 j cap 1)) w := by
  subst hJ
  unfold execOp
  simp only [ho, hx, hz, Option.map_some, Option.map_none, Sem.run_bind, run_sliceAt_slice w 34 _ _ _ _ eltB, run_slice_h w 34 q n cap eltB _ (j : Int) (by omega) (by omega), sizeB, Result.andThen_ok, Sem.run_pure, Int.toNat_natCast]
end
theorem sliced_form (q : Option Addr) (i j m : Nat) : ∃ q', sliced q i j m 1 = .slice q' (j - i) (m - i) := by
  unfold sliced; exact ⟨_, rfl⟩

section
variable {ops : Array Oper} {rest : List Oper} {o : Oper} {a : Act} {w : World} {Q : Exit → Act → World → Prop}
/-- 'b[i:j]' of bytes. -/
theorem slb_lh (hw : Region.wanted o (yielded ops a.tmps) = true) {x y z : Operand} (ho : o.op = .slice 34 x (some y) (some z) none) {q : Option Addr} {n cap : Nat} {I J : Int} {ki kj : IntKind} {l : List Nat} (i j : Nat)
    (hx : a.eval x = .slice q n cap) (hy : a.eval y = .int ki I) (hz : a.eval z = .int kj J) (hI : I = (i : Int)) (hJ : J = (j : Int)) (h1 : i ≤ j) (h2 : j ≤ n) (hsl : Sl w (.slice q n cap) l)
    (hK : ∀ q', Sl w (.slice q' (j - i) (cap - i)) ((l.drop i).take (j - i)) → wpList Try.prog ops Q rest (a.put o.dst (.slice q' (j - i) (cap - i))) w) : wpList Try.prog ops Q (o :: rest) a w := by
  have hc := hsl.len
  obtain ⟨q', e⟩ := sliced_form q i j cap
  have hr := slb_lh_run (w := w) ho hx hy hz hI hJ h1 (by omega)
  rw [e] at hr
  exact valS hw _ hr (hK q' (hsl.sub h1 h2 (Nat.le_refl _) (by omega) e.symm))
/-- 'b[i:]' of bytes. -/
theorem slb_l (hw : Region.wanted o (yielded ops a.tmps) = true) {x y : Operand} (ho : o.op = .slice 34 x (some y) none none) {q : Option Addr} {n cap : Nat} {I : Int} {ki : IntKind} {l : List Nat} (i : Nat)
    (hx : a.eval x = .slice q n cap) (hy : a.eval y = .int ki I) (hI : I = (i : Int)) (h1 : i ≤ n) (hsl : Sl w (.slice q n cap) l)
    (hK : ∀ q', Sl w (.slice q' (n - i) (cap - i)) (l.drop i) → wpList Try.prog ops Q rest (a.put o.dst (.slice q' (n - i) (cap - i))) w) : wpList Try.prog ops Q (o :: rest) a w := by
  have hc := hsl.len
  obtain ⟨q', e⟩ := sliced_form q i n cap
  have hr := slb_l_run (w := w) ho hx hy hI h1 hc.2.1
  rw [e] at hr
  refine valS hw _ hr (hK q' ?_)
  have := hsl.sub h1 (Nat.le_refl _) (Nat.le_refl _) hc.2.1 e.symm
  rwa [List.take_of_length_le (by rw [List.length_drop]; omega)] at this
/-- 'b[:j]' of bytes. -/
theorem slb_h (hw : Region.wanted o (yielded ops a.tmps) = true) {x z : Operand} (ho : o.op = .slice 34 x none (some z) none) {q : Option Addr} {n cap : Nat} {J : Int} {kj : IntKind} {l : List Nat} (j : Nat)
    (hx : a.eval x = .slice q n cap) (hz : a.eval z = .int kj J) (hJ : J = (j : Int)) (h2 : j ≤ n) (hsl : Sl w (.slice q n cap) l)
    (hK : ∀ q', Sl w (.slice q' j cap) (l.take j) → wpList Try.prog ops Q rest (a.put o.dst (.slice q' j cap)) w) : wpList Try.prog ops Q (o :: rest) a w := by
  have hc := hsl.len
  obtain ⟨q', e⟩ := sliced_form q 0 j cap
  have hr := slb_h_run (w := w) ho hx hz hJ (by omega)
  rw [e] at hr
  exact valS hw _ hr (hK q' (hsl.sub (Nat.zero_le _) h2 (Nat.le_refl _) (by omega) e.symm))
end

/-- A slice of one slice of bytes, just made. -/
theorem bsl1 (q : Option Addr) (n c : Nat) (w : World) : (Instr.buildSlice 31 1 #[(0, .slice q n c)]).run Try.prog w = .ok (.slice (some ⟨w.heap.size, 0, none⟩) 1 1) (w.alloc (.cells #[.slice q n c] 34)) := by kernel_rfl
theorem bsl2 (q : Option Addr) (n c : Nat) (q2 : Option Addr) (n2 c2 : Nat) (w : World) : (Instr.buildSlice 31 2 #[(0, .slice q n c), (1, .slice q2 n2 c2)]).run Try.prog w = .ok (.slice (some ⟨w.heap.size, 0, none⟩) 2 2) (w.alloc (.cells #[.slice q n c, .slice q2 n2 c2] 34)) := by kernel_rfl
theorem bsl3 (q : Option Addr) (n c : Nat) (q2 : Option Addr) (n2 c2 : Nat) (q3 : Option Addr) (n3 c3 : Nat) (w : World) : (Instr.buildSlice 31 3 #[(0, .slice q n c), (1, .slice q2 n2 c2), (2, .slice q3 n3 c3)]).run Try.prog w = .ok (.slice (some ⟨w.heap.size, 0, none⟩) 3 3) (w.alloc (.cells #[.slice q n c, .slice q2 n2 c2, .slice q3 n3 c3] 34)) := by kernel_rfl
section
variable {ops : Array Oper} {rest : List Oper} {o : Oper} {a : Act} {w : World} {Q : Exit → Act → World → Prop}
theorem ls_new (w : World) (vs : List Value) (ls : List (List Nat)) (n : Nat) (hn : vs.length = n) (hm : n ≤ maxLen) (hl : ls.length = n) (hE : ∀ (j : Nat) (x : Value) (l : List Nat), vs[j]? = some x → ls[j]? = some l → Sl w x l) :
    Ls (w.alloc (.cells vs.toArray 34)) (.slice (some ⟨w.heap.size, 0, none⟩) n n) vs ls := by
  have hb : Below w.heap.size w (w.alloc (.cells vs.toArray 34)) := (Below.refl _ _).alloc (Nat.le_refl _) _
  subst hn
  refine ⟨hl.symm, ⟨_, _, rfl, Nat.le_refl _, hm, fun h0 => ⟨_, 0, rfl, by simp, fun j x hx => ?_⟩⟩, fun j x l hx hl => (hE j x l hx hl).keep hb⟩
  rw [Nat.zero_add, (Blk.new w vs.toArray 34).cell j]
  simpa using hx
theorem bs_lsW {K : Act → World → Prop} (d : Option Tmp) (hd : o.dst = d) {n : Nat} {parts : Array (Nat × Operand)} (ho : o.op = .buildSlice 31 n parts) (xs : List Value) (ls : List (List Nat)) {vs : Array (Nat × Value)} (hl : parts.map (fun (i, x) => (i, a.eval x)) = vs)
    (hrun : (Instr.buildSlice 31 n vs).run Try.prog w = .ok (.slice (some ⟨w.heap.size, 0, none⟩) n n) (w.alloc (.cells xs.toArray 34))) (hn : xs.length = n) (hm : n ≤ maxLen) (hln : ls.length = n) (hE : ∀ (j : Nat) (x : Value) (l : List Nat), xs[j]? = some x → ls[j]? = some l → Sl w x l)
    (h : ∀ W', Ls W' (.slice (some ⟨w.heap.size, 0, none⟩) n n) xs ls → Below w.heap.size w W' → Blk W' w.heap.size xs.toArray 34 → K (a.put d (.slice (some ⟨w.heap.size, 0, none⟩) n n)) W') : o.wp Try.prog a w K Q := by
  subst hd
  unfold Oper.wp execOp
  simp only [ho, Sem.run_bind, hl, hrun, Result.andThen_ok]
  exact h _ (ls_new w xs ls n hn hm hln hE) ((Below.refl _ _).alloc (Nat.le_refl _) _) (Blk.new w _ _)
theorem bs_ls (hw : Region.wanted o (yielded ops a.tmps) = true) {n : Nat} {parts : Array (Nat × Operand)} (ho : o.op = .buildSlice 31 n parts) (xs : List Value) (ls : List (List Nat)) {vs : Array (Nat × Value)} (hl : parts.map (fun (i, x) => (i, a.eval x)) = vs)
    (hrun : (Instr.buildSlice 31 n vs).run Try.prog w = .ok (.slice (some ⟨w.heap.size, 0, none⟩) n n) (w.alloc (.cells xs.toArray 34))) (hn : xs.length = n) (hm : n ≤ maxLen) (hln : ls.length = n) (hE : ∀ (j : Nat) (x : Value) (l : List Nat), xs[j]? = some x → ls[j]? = some l → Sl w x l)
    (h : ∀ W', Ls W' (.slice (some ⟨w.heap.size, 0, none⟩) n n) xs ls → Below w.heap.size w W' → Blk W' w.heap.size xs.toArray 34 → wpList Try.prog ops Q rest (a.put o.dst (.slice (some ⟨w.heap.size, 0, none⟩) n n)) W') : wpList Try.prog ops Q (o :: rest) a w := by
  unfold wpList
  rw [if_pos hw]
  left
  exact bs_lsW o.dst rfl ho xs ls hl hrun hn hm hln hE h
end
theorem each1 {w : World} {v : Value} {l : List Nat} (h : Sl w v l) : ∀ (j : Nat) (x : Value) (m : List Nat), [v][j]? = some x → [l][j]? = some m → Sl w x m := by
  intro j x m hx hm
  match j, hx, hm with
  | 0, hx, hm => simp at hx hm; subst hx; subst hm; exact h
theorem each2 {w : World} {v v2 : Value} {l l2 : List Nat} (h : Sl w v l) (h2 : Sl w v2 l2) : ∀ (j : Nat) (x : Value) (m : List Nat), [v, v2][j]? = some x → [l, l2][j]? = some m → Sl w x m := by
  intro j x m hx hm
  match j, hx, hm with
  | 0, hx, hm => simp at hx hm; subst hx; subst hm; exact h
  | 1, hx, hm => simp at hx hm; subst hx; subst hm; exact h2
theorem each3 {w : World} {v v2 v3 : Value} {l l2 l3 : List Nat} (h : Sl w v l) (h2 : Sl w v2 l2) (h3 : Sl w v3 l3) : ∀ (j : Nat) (x : Value) (m : List Nat), [v, v2, v3][j]? = some x → [l, l2, l3][j]? = some m → Sl w x m := by
  intro j x m hx hm
  match j, hx, hm with
  | 0, hx, hm => simp at hx hm; subst hx; subst hm; exact h
  | 1, hx, hm => simp at hx hm; subst hx; subst hm; exact h2
  | 2, hx, hm => simp at hx hm; subst hx; subst hm; exact h3

end Go.Proofs.Yteililgfjnoabaa
