/-
  Parts of slices of numbers, at one operation.
  What the laws call besides: alive, large, estuarynum.Num.
  A region that draws its order and whose last operation, z, writes what others read: what holds need hold only until z has come up. Nothing here names the program.
  What ballot's small calls answer, and the document's: Less, whole, isNone, asks, Next, Good.
-/
import Derived.Test.YtpcejajidhfmpaaPk05
import Derived.Test.YtpcejajidhfmpaaPk02
import Derived.Lib.SmallJoins
import Derived.Test.YtpcejajidhfmpaaPk01
import Derived.Deep.RegionHeld3
import Derived.Test.YtpcejajidhfmpaaRows
namespace Go.Proofs.Ytpcejajidhfmpaa
open Go.RowKit
set_option linter.unusedVariables false

theorem irow_take2 {W : World} {g off : Nat} {l : List Int} (h : IRow W g off l) (k : Nat) : IRow W g off (l.take k) := by
  intro j x hx
  have hj := (List.getElem?_eq_some_iff.1 hx).1
  rw [List.length_take] at hj
  rw [List.getElem?_take_of_lt (by omega)] at hx
  exact h j x hx
theorem irow_drop2 {W : World} {g off : Nat} {l : List Int} (h : IRow W g off l) (k : Nat) : IRow W g (off + k) (l.drop k) := by
  intro j x hx
  rw [List.getElem?_drop] at hx
  have := h (k + j) x hx
  rwa [← Nat.add_assoc] at this
theorem Is.len {W : World} {q : Option Addr} {n cap : Nat} {l : List Int} (h : Is W (.slice q n cap) l) : l.length = n ∧ n ≤ cap ∧ cap ≤ 9223372036854775807 := by
  obtain ⟨q', cap', g, off, e, h1, h2, _⟩ := h
  cases e
  exact ⟨rfl, h1, h2⟩
theorem Is.nil (W : World) : Is W (.slice none 0 0) [] := ⟨none, 0, 0, 0, rfl, Nat.le_refl _, by omega, fun h => absurd h (by simp), fun h => absurd h (by simp), fun j x h => by simp at h⟩
theorem Is.form {W : World} {v : Value} {l : List Int} (h : Is W v l) : ∃ q cap, v = .slice q l.length cap := by
  obtain ⟨q, cap, g, off, e, _⟩ := h
  exact ⟨q, cap, e⟩
/-- A part of a slice of numbers. -/
theorem Is.sub {W : World} {q : Option Addr} {n cap : Nat} {l : List Int} (h : Is W (.slice q n cap) l) {i j sc : Nat} {v : Value} (hij : i ≤ j) (hjn : j ≤ n) (hsc : sc ≤ cap) (hjc : j ≤ sc) (hv : v = sliced q i j sc 1) : Is W v ((l.drop i).take (j - i)) := by
  obtain ⟨q', cap', g, off, e, h1, h2, h3, h4, h5⟩ := h
  cases e
  have hl : ((l.drop i).take (j - i)).length = j - i := by rw [List.length_take, List.length_drop]; omega
  subst hv
  unfold sliced
  by_cases c : sc = i
  · rw [if_pos c]
    refine ⟨q, sc - i, g, off, by rw [hl], by omega, by omega, fun h0 => ?_, fun h0 => ?_, fun j' x hx => ?_⟩
    · rw [hl] at h0; omega
    · rw [hl] at h0; omega
    · have := (List.getElem?_eq_some_iff.1 hx).1; rw [hl] at this; omega
  · rw [if_neg c]
    refine ⟨_, sc - i, g, off + i, by rw [hl], by omega, by omega, fun h0 => ?_, fun h0 => ?_, irow_take2 (irow_drop2 h5 i) _⟩
    · rw [hl] at h0
      rw [h3 (by omega), Option.map_some, Addr.add_mid, Nat.mul_one]
    · rw [hl] at h0
      exact h4 (by omega)
/-- One of its numbers. -/
theorem Is.at {W : World} {q : Option Addr} {n cap : Nat} {l : List Int} (h : Is W (.slice q n cap) l) (hn : 0 < n) : ∃ g off, q = some ⟨g, off, none⟩ ∧ g < W.heap.size ∧ IRow W g off l := by
  obtain ⟨q', cap', g, off, e, h1, h2, h3, h4, h5⟩ := h
  cases e
  exact ⟨g, off, h3 hn, h4 hn, h5⟩
theorem sizeN (w : World) : (sizeOf (Try.prog.elem 24)).run Try.prog w = .ok 1 w := by kernel_rfl
theorem eltN : Try.prog.underlying 24 = some (.slice (Try.prog.elem 24)) := by kernel_rfl
section
variable {ops : Array Oper} {rest : List Oper} {o : Oper} {a : Act} {w : World} {Q : Exit → Act → World → Prop}
theorem sli_l_run {ρ : Operand → Value} {x y : Operand} (ho : o.op = .slice 24 x (some y) none none) {q : Option Addr} {n cap i : Nat} {I : Int} {ki : IntKind}
    (hx : ρ x = .slice q n cap) (hy : ρ y = .int ki I) (hI : I = (i : Int)) (h1 : i ≤ n) (h2 : n ≤ cap) : (execOp ρ o).run Try.prog w = .ok (.value (sliced q i n cap 1)) w := by
  subst hI
  unfold execOp
  simp only [ho, hx, hy, Option.map_some, Option.map_none, Sem.run_bind, run_sliceAt_slice w 24 _ _ _ _ eltN, run_slice_l w 24 q n cap eltN _ (i : Int) (by omega) (by omega), sizeN, Result.andThen_ok, Sem.run_pure, Int.toNat_natCast]
theorem sli_h_run {ρ : Operand → Value} {x z : Operand} (ho : o.op = .slice 24 x none (some z) none) {q : Option Addr} {n cap j : Nat} {J : Int} {kj : IntKind}
    (hx : ρ x = .slice q n cap) (hz : ρ z = .int kj J) (hJ : J = (j : Int)) (h2 : j ≤ cap) : (execOp ρ o).run Try.prog w = .ok (.value (sliced q 0 j cap 1)) w := by
  subst hJ
  unfold execOp
  simp only [ho, hx, hz, Option.map_some, Option.map_none, Sem.run_bind, run_sliceAt_slice w 24 _ _ _ _ eltN, run_slice_h w 24 q n cap eltN _ (j : Int) (by omega) (by omega), sizeN, Result.andThen_ok, Sem.run_pure, Int.toNat_natCast]
/-- 'l[i:]' of numbers that an earlier world holds. -/
theorem sli_l (V : World) (hw : Region.wanted o (yielded ops a.tmps) = true) {x y : Operand} (ho : o.op = .slice 24 x (some y) none none) {q : Option Addr} {n cap : Nat} {I : Int} {ki : IntKind} {l : List Int} (i : Nat)
    (hx : a.eval x = .slice q n cap) (hy : a.eval y = .int ki I) (hI : I = (i : Int)) (h1 : i ≤ n) (hsl : Is V (.slice q n cap) l)
    (hK : ∀ q', Is V (.slice q' (n - i) (cap - i)) (l.drop i) → wpList Try.prog ops Q rest (a.put o.dst (.slice q' (n - i) (cap - i))) w) : wpList Try.prog ops Q (o :: rest) a w := by
  have hc := hsl.len
  obtain ⟨q', e⟩ := sliced_form q i n cap
  have hr := sli_l_run (w := w) ho hx hy hI h1 hc.2.1
  rw [e] at hr
  refine valS hw _ hr (hK q' ?_)
  have := hsl.sub h1 (Nat.le_refl _) (Nat.le_refl _) hc.2.1 e.symm
  rwa [List.take_of_length_le (by rw [List.length_drop]; omega)] at this
theorem sli_h (V : World) (hw : Region.wanted o (yielded ops a.tmps) = true) {x z : Operand} (ho : o.op = .slice 24 x none (some z) none) {q : Option Addr} {n cap : Nat} {J : Int} {kj : IntKind} {l : List Int} (j : Nat)
    (hx : a.eval x = .slice q n cap) (hz : a.eval z = .int kj J) (hJ : J = (j : Int)) (h1 : j ≤ n) (hsl : Is V (.slice q n cap) l)
    (hK : ∀ q', Is V (.slice q' j cap) (l.take j) → wpList Try.prog ops Q rest (a.put o.dst (.slice q' j cap)) w) : wpList Try.prog ops Q (o :: rest) a w := by
  have hc := hsl.len
  obtain ⟨q', e⟩ := sliced_form q 0 j cap
  have hr := sli_h_run (w := w) ho hx hz hJ (by omega)
  rw [e] at hr
  refine valS hw _ hr (hK q' ?_)
  have := hsl.sub (Nat.zero_le _) h1 (Nat.le_refl _) (by omega) e.symm
  simpa using this
end
section
variable {ops : Array Oper} {rest : List Oper} {o : Oper} {a : Act} {w : World} {Q : Exit → Act → World → Prop}
theorem appiW {K : Act → World → Prop} (A : World) (d : Option Tmp) (hd : o.dst = d) {s x : Operand} (ho : o.op = .call { callee := .builtin .append, args := #[s, x], argTypes := #[24, 24] })
    {v vx : Value} {n k : Nat} {l m : List Int} (hs : a.eval s = v) (hown : w.ownsRow A.heap.size 3 1 v n (ints l)) (hx : a.eval x = vx) (hsl : Is w vx m) (hm : m.length = k) (h63 : (n + k) * 8 ≤ 140737488355328) (hA : Below A.heap.size A w)
    (h : ∀ v' w', w'.ownsRow A.heap.size 3 1 v' (n + k) (ints (l ++ m)) → (v' = .slice none 0 0 ↔ v = .slice none 0 0 ∧ k = 0) → Below A.heap.size A w' → w.grownBy w' v.ownBlock → K (a.put d v') w') : o.wp Try.prog a w K Q := by
  subst hm
  obtain ⟨q, cap, rfl, hq, hsrc⟩ := hsl.src
  refine appW A d hd ho Try.underlying24 infoInt rfl (by omega) hs hown (ints m) hx hq (by rw [ints_len, Nat.mul_one]) hsrc (ints_one m) (by unfold maxLen; omega) h63 hA fun v' w' h1 h2 h3 h4 => ?_
  rw [ints_append] at h1
  exact h v' w' h1 h2 h3 h4
theorem mkW {K : Act → World → Prop} (A : World) (d : Option Tmp) (hd : o.dst = d) {x y : Operand} (ho : o.op = .makeSlice 24 x y)
    {c : Nat} {C : Int} (hx : a.eval x = .int .i64 0) (hy : a.eval y = .int .i64 C) (hC : C = (c : Int)) (hb : 8 * c ≤ 281474976710656) (hA : Below A.heap.size A w)
    (h : ∀ v w', w'.ownsRow A.heap.size 3 1 v 0 (ints []) → v ≠ .slice none 0 0 → Below A.heap.size A w' → K (a.put d v) w') : o.wp Try.prog a w K Q := by
  subst hC
  subst hd
  obtain ⟨i, hi, hz0, hz1, hz2⟩ := info_parts infoInt
  obtain ⟨w', hr, ho', hg⟩ := run_make_own (P := Try.prog) w A.heap.size 24 3 i _ 1 Try.underlying24 hi hz0 hz1 .i64 .i64 c (by rw [hz2]; exact hb) (by unfold maxLen; omega) hA.size
  unfold Oper.wp execOp
  simp only [ho, Sem.run_bind, hx, hy, hr, Result.andThen_ok]
  exact h _ _ ho' (by simp) (below_grown hA hg)
end
theorem io_chg {W W' : World} {base b : Nat} {v : Value} {l : List Int} (h : Io W base v l) (hc : Chg b W W') (hb : b < base) : Io W' base v l := by
  refine ⟨h.1, ?_⟩
  rcases h.2 with h2 | ⟨g, cap, cur, h1, h2, hg, h3⟩
  · exact .inl h2
  · exact .inr ⟨g, cap, cur, h1, h2, Blk.chg hg hc (by omega), h3⟩
/-- A copy of numbers, with a mark behind them. -/
def Cn (W : World) (base : Nat) (v : Value) (l : List Int) : Prop := ∃ g cap, v = .slice (some ⟨g, 0, none⟩) l.length cap ∧ Io W base (.slice (some ⟨g, 0, none⟩) (l ++ [-77]).length cap) (l ++ [-77])
theorem Cn.keep {W W' : World} {base : Nat} {v : Value} {l : List Int} (h : Cn W base v l) (hb : Below W.heap.size W W') : Cn W' base v l := by
  obtain ⟨g, cap, rfl, h1⟩ := h
  exact ⟨g, cap, rfl, h1.keep hb⟩
theorem Cn.chg {W W' : World} {base b : Nat} {v : Value} {l : List Int} (h : Cn W base v l) (hc : Chg b W W') (hb : b < base) : Cn W' base v l := by
  obtain ⟨g, cap, rfl, h1⟩ := h
  exact ⟨g, cap, rfl, io_chg h1 hc hb⟩
theorem Cn.less {W : World} {base base' : Nat} {v : Value} {l : List Int} (h : Cn W base v l) (hb : base' ≤ base) : Cn W base' v l := by
  obtain ⟨g, cap, rfl, h1⟩ := h
  exact ⟨g, cap, rfl, h1.less hb⟩
theorem Cn.open {W : World} {base : Nat} {v : Value} {l : List Int} (h : Cn W base v l) : Is W v l ∧ ∃ g cap, v = .slice (some ⟨g, 0, none⟩) l.length cap ∧ l.length + 1 ≤ cap ∧ W.cell? ⟨g, l.length, none⟩ = some (.int .i64 (-77)) := by
  obtain ⟨g, cap, rfl, h1⟩ := h
  obtain ⟨q, cap', g', off, e, x1, x2, x3, x4, x5⟩ := h1.is
  cases e
  have := x3 (by simp)
  cases this
  rw [List.length_append] at x1
  refine ⟨⟨_, cap, g, 0, rfl, Nat.le_trans (Nat.le_add_right _ _) x1, x2, fun _ => rfl, fun _ => x4 (by simp), fun j x hj => x5 j x ?_⟩, g, cap, rfl, x1, ?_⟩
  · rw [List.getElem?_append_left (List.getElem?_eq_some_iff.1 hj).1]; exact hj
  · have := x5 l.length (-77) (by simp)
    rwa [Nat.zero_add] at this
theorem Cn.is {W : World} {base : Nat} {v : Value} {l : List Int} (h : Cn W base v l) : Is W v l := h.open.1
theorem sep_old {W : World} {base e size n : Nat} {v u : Value} {xs : List Value} (h : W.ownsRow base e size v n xs) (hu : u.ownBlock = some W.heap.size) : Sep u v := by
  intro k hk hv
  have := World.ownsRow.lt h k hv
  rw [hu] at hk
  cases hk
  omega
theorem copied_cn {W : World} {base n g cap : Nat} {l : List Int} (h : W.ownsRow base 3 1 (.slice (some ⟨g, 0, none⟩) (0 + n + 1) cap) (0 + n + 1) (ints ([] ++ l ++ [-77]))) (hn : l.length = n) : Cn W base (.slice (some ⟨g, 0, none⟩) n cap) l := by
  subst hn
  refine ⟨g, cap, rfl, ?_⟩
  have e : (l ++ [-77]).length = 0 + l.length + 1 := by simp
  unfold Io
  rw [e]
  simpa using h
theorem sliced_0 (g n cap : Nat) : sliced (some ⟨g, 0, none⟩) 0 n cap 1 = .slice (some ⟨g, 0, none⟩) n cap := by
  unfold sliced
  simp [Addr.add]
end Go.Proofs.Ytpcejajidhfmpaa
namespace Go.Proofs.Ytpcejajidhfmpaa
open Go.RowKit
set_option linter.unusedVariables false

theorem ex_nums : strB ([] ++ numsB [0, -1, 1, -300]) = ⟨#[0, 1, 1, 1, 2, 2, 87, 2]⟩ := by decide +kernel
theorem ex_frm : strB (frm ([] : List (List Nat)).flatten) = ⟨#[0, 0, 0, 0, 197, 157, 28, 129]⟩ := by decide +kernel
theorem isl4 (a b c d : Int) (w : World) : (Instr.buildSlice 24 4 #[(0, .int .i64 a), (1, .int .i64 b), (2, .int .i64 c), (3, .int .i64 d)]).run Try.prog w = .ok (.slice (some ⟨w.heap.size, 0, none⟩) 4 4) (w.alloc (.cells (ints [a, b, c, d]).toArray 3)) := by kernel_rfl
/-- What large answers. -/
def LP (ls : List (List Nat)) (e : Ending) : Prop := ∃ r : Bool, e = .returned (.bool r) ∧ (r = false → ls.length ≤ 300 ∧ ls.flatten.length ≤ 65536)
theorem num_nil (w : World) : Calls Try.prog 25 #[.nilIface] w fun e w' => e = .returned (.int .i64 0) ∧ w' = w := by
  go_enter Try.func25, Try.ntmps25
  go_wp2_with fail
  go_ret
  exact ⟨rfl, rfl⟩
theorem ta_err (n : Int) (w : World) : (Instr.typeAssert (Err n) 55 66 true).run Try.prog w = .ok (.tuple #[.int .i64 n, .bool true]) w := by kernel_rfl
theorem num_err (n : Int) (hn : n ≠ 0) (w : World) : Calls Try.prog 25 #[Err n] w fun e w' => e = .returned (.int .i64 n) ∧ w' = w := by
  have h0 : (n == 0) = false := by simp [hn]
  have ht := ta_err n w
  go_enter Try.func25, Try.ntmps25
  go_wp2_with fail
  go_ret
  exact ⟨rfl, rfl⟩
/-- '==' of two errors. -/
theorem eq33 (w : World) : (binOp .eql 55 (Err 3) (Err 3)).run Try.prog w = .ok (.bool true) w := by kernel_rfl
theorem ne33 (w : World) : (binOp .neq 55 (Err 3) (Err 3)).run Try.prog w = .ok (.bool false) w := by kernel_rfl
theorem eq77 (w : World) : (binOp .eql 55 (Err 7) (Err 7)).run Try.prog w = .ok (.bool true) w := by kernel_rfl
theorem eq30 (w : World) : (binOp .eql 55 (Err 3) .nilIface).run Try.prog w = .ok (.bool false) w := by kernel_rfl
theorem ne30 (w : World) : (binOp .neq 55 (Err 3) .nilIface).run Try.prog w = .ok (.bool true) w := by kernel_rfl
theorem ne70 (w : World) : (binOp .neq 55 (Err 7) .nilIface).run Try.prog w = .ok (.bool true) w := by kernel_rfl
theorem ne00 (w : World) : (binOp .neq 55 .nilIface .nilIface).run Try.prog w = .ok (.bool false) w := by kernel_rfl
theorem eq00 (w : World) : (binOp .eql 55 .nilIface .nilIface).run Try.prog w = .ok (.bool true) w := by kernel_rfl
/-- The error of a number. -/
def errV (n : Nat) : Value := if n = 0 then .nilIface else Err n
theorem errV_ok {n : Nat} (h : n = 0) : errV n = .nilIface := if_pos h
theorem errV_no {n : Nat} (h : n ≠ 0) : errV n = Err n := if_neg h
end Go.Proofs.Ytpcejajidhfmpaa
namespace Go.Proofs.Ytpcejajidhfmpaa
set_option linter.unusedVariables false

section
variable {P : Program} {ops : Array Oper} {Q : Exit → Act → World → Prop} {md : Region.Mode} {S : World → Prop} {z : Nat}
/-- Operation k waits for i. -/
def waits (md : Region.Mode) (ops : Array Oper) (k i : Nat) : Bool := match ops[k]? with
  | some o => o.after.any fun e => Region.binds md e && e.on == i
  | none => false
/-- A chain of operations that have not come up, each of which waits for the one ahead of it, the first for i. -/
def chainB (md : Region.Mode) (ops : Array Oper) (l : Array Bool) : Nat → List Nat → Bool
  | _, [] => true
  | i, k :: r => waits md ops k i && (!(l.getD k true)) && chainB md ops l k r
theorem chain_away {l : Array Bool} {j : Nat} (hj : j ∈ Region.ready md ops l) : ∀ (c : List Nat) (i : Nat), l.getD i true = false → chainB md ops l i c = true → j ∉ c
  | [], _, _, _ => by simp
  | k :: r, i, hi, h => by
    simp only [chainB, Bool.and_eq_true, Bool.not_eq_true'] at h
    obtain ⟨⟨hw, hk⟩, hr⟩ := h
    intro hm
    rcases List.mem_cons.1 hm with rfl | hm
    · obtain ⟨_, oj, hoj, hall⟩ := mem_ready.1 hj
      unfold waits at hw
      rw [hoj] at hw
      simp only [Array.any_eq_true', Bool.and_eq_true, beq_iff_eq] at hw
      obtain ⟨e, he, hb, hon⟩ := hw
      have x1 := hall e he hb
      rw [hon] at x1
      rcases Nat.lt_or_ge i l.size with h' | h'
      · simp [h'] at hi x1; rw [hi] at x1; cases x1
      · simp [Array.getElem?_eq_none h'] at x1
    · exact chain_away hj r k hk hr hm
theorem chain_set {l : Array Bool} {j : Nat} : ∀ (c : List Nat) (i : Nat), j ∉ c → chainB md ops l i c = true → chainB md ops (l.setIfInBounds j true) i c = true
  | [], _, _, _ => rfl
  | k :: r, i, hj, h => by
    simp only [chainB, Bool.and_eq_true, Bool.not_eq_true'] at h ⊢
    obtain ⟨⟨hw, hk⟩, hr⟩ := h
    simp only [List.mem_cons, not_or] at hj
    exact ⟨⟨hw, by rw [getD_set_ne true hj.1]; exact hk⟩, chain_set r k hj.2 hr⟩
theorem chain_un {l : Array Bool} : ∀ (c : List Nat) (i : Nat), chainB md ops l i c = true → ∀ k ∈ c, l.getD k true = false
  | [], _, _, _, hk => by simp at hk
  | k :: r, i, h, m, hm => by
    simp only [chainB, Bool.and_eq_true, Bool.not_eq_true'] at h
    rcases List.mem_cons.1 hm with rfl | hm
    · exact h.1.2
    · exact chain_un r k h.2 m hm
/-- In any order from here on; S holds behind each operation while z has not come up. -/
def anyL (P : Program) (md : Region.Mode) (ops : Array Oper) (Q : Exit → Act → World → Prop) (S : World → Prop) (z : Nat) : Nat → Array Bool → Act → World → Prop
  | 0, l, a, w => Region.ready md ops l = [] ∧ Q .normal a w
  | n + 1, l, a, w => (Region.ready md ops l = [] → Q .normal a w) ∧
    ∀ i ∈ Region.ready md ops l, wpOp P ops Q i (fun a' w' => ((l.setIfInBounds i true).getD z true = false → S w') ∧ anyL P md ops Q S z n (l.setIfInBounds i true) a' w') a w
theorem anyL_any : ∀ (n : Nat) (l : Array Bool) (a : Act) (w : World), anyL P md ops Q S z n l a w → wpAny P md ops Q n l a w
  | 0, _, _, _, h => h
  | n + 1, _, _, _, h => ⟨h.1, fun i hi => wpOp_mono (fun a' w' h' => anyL_any n _ a' w' h'.2) (h.2 i hi)⟩
theorem region_L (z : Nat) {id : Nat} {a : Act} {w : World} (hm : P.follows .mixedOrders = true) (hS : S w.drew)
    (h : S w.drew → anyL P .any ops Q S z ops.size (Array.replicate ops.size false) a w.drew) : (Code.region id ops true).wp P Q a w :=
  wp_region_any hm (anyL_any _ _ _ _ (h hS))
theorem anyL_done {n : Nat} {l : Array Bool} {a : Act} {w : World} (hr : Region.ready md ops l = []) (h : Q .normal a w) : anyL P md ops Q S z n l a w := by
  cases n with
  | zero => exact ⟨hr, h⟩
  | succ n => exact ⟨fun _ => h, fun i hi => by rw [hr] at hi; cases hi⟩
theorem anyL_first {i : Nat} {oi : Oper} {v : Value} (c : List Nat) (hz : z ∈ c) (hi : ops[i]? = some oi) (hsel : ∀ (j : Nat) (o : Oper) cs b, ops[j]? = some o → o.op ≠ .select cs b)
    (hQ : ∀ c a w, Q (.panic c) (a.put oi.dst v) w → Q (.panic c) a w) : ∀ (n : Nat) (l : Array Bool) (a : Act) (w : World), chainB md ops l i c = true →
      (∀ j oj, ops[j]? = some oj → j ≠ i → l.getD j true = false → (∀ e ∈ oj.after, Region.binds md e = true → e.on ≠ i) → oi.apart ops oj = true) →
      i ∈ Region.ready md ops l → YieldsIf P ops S oi v a → S w → anyL P md ops Q S z n (l.setIfInBounds i true) (a.put oi.dst v) w → anyL P md ops Q S z (n + 1) l a w
  | 0, l, a, w, _, _, hr, hy, hS, H => by
    refine ⟨fun h => (by rw [h] at hr; cases hr), fun j hj => ?_⟩
    by_cases hji : j = i
    · subst hji; exact hy.wpOp hi hS ⟨fun _ => hS, H⟩
    · have hm := ready_mono hj hji
      rw [H.1] at hm
      cases hm
  | n + 1, l, a, w, hc, hfree, hr, hy, hS, H => by
    refine ⟨fun h => (by rw [h] at hr; cases hr), fun j hj => ?_⟩
    by_cases hji : j = i
    · subst hji; exact hy.wpOp hi hS ⟨fun _ => hS, H⟩
    · have h1 := H.2 j (ready_mono hj hji)
      obtain ⟨hun, oj, hoj, hall⟩ := mem_ready.1 hj
      have hiu := (mem_ready.1 hr).1
      have hjc := chain_away hj c i hiu hc
      have hc' := chain_set c i hjc hc
      have hno : ∀ e ∈ oj.after, Region.binds md e = true → e.on ≠ i := fun e he hb heq => by
        have x1 := hall e he hb
        rw [heq] at x1
        rcases Nat.lt_or_ge i l.size with h' | h'
        · simp [h'] at hiu x1; rw [hiu] at x1; cases x1
        · simp [Array.getElem?_eq_none h'] at x1
      have h2 := wpOp_putIf hoj (hfree j oj hoj hji hun hno) (fun cs b => hsel i oi cs b hi) (fun cs b => hsel j oj cs b hoj) hQ hy h1
      have hfree' : ∀ k ok, ops[k]? = some ok → k ≠ i → (l.setIfInBounds j true).getD k true = false → (∀ e ∈ ok.after, Region.binds md e = true → e.on ≠ i) → oi.apart ops ok = true := fun k ok hk hki hu hn => by
        refine hfree k ok hk hki ?_ hn
        by_cases hjk : j = k
        · subst hjk; exact hun
        · rw [getD_set_ne true hjk] at hu; exact hu
      have hzi : z ≠ i := fun e => by
        subst e
        exact chain_away hr c z hiu hc hz
      refine wpOp_mono (fun a' w' h3 => ?_) h2
      obtain ⟨y3, s3, k3⟩ := h3
      have s4 : S w' := s3 (by rw [Array.setIfInBounds_comm _ _ (Ne.symm hji), getD_set_ne true (Ne.symm hzi)]; exact chain_un c i hc' z hz)
      refine ⟨fun _ => s4, anyL_first c hz hi hsel hQ n _ a' w' hc' hfree' (ready_mono hr (Ne.symm hji)) y3 s4 ?_⟩
      rw [Array.setIfInBounds_comm _ _ hji]
      exact k3
/-- An operation that yields is taken first; where its value goes is said; c: the chain from it to z. -/
theorem takeL {i : Nat} {oi : Oper} {v : Value} {n : Nat} {l : Array Bool} {a : Act} {w : World} (c : List Nat) (d : Option Tmp) (hz : c.contains z = true) (hi : ops[i]? = some oi) (hd : oi.dst = d)
    (hc : chainB md ops l i c = true) (hs : Region.noSelect ops = true) (hf : Region.free md ops l i = true) (hr : (Region.ready md ops l).contains i = true)
    (hQ : ∀ c a w, Q (.panic c) (a.put d v) w → Q (.panic c) a w) (hw : Region.wanted oi (yielded ops a.tmps) = true) (hy : ∀ w, S w → (execOp a.eval oi).run P w = .ok (.value v) w) (hS : S w)
    (h : anyL P md ops Q S z n (l.setIfInBounds i true) (a.put d v) w) : anyL P md ops Q S z (n + 1) l a w := by
  subst hd
  exact anyL_first c (by simpa using hz) hi (Region.noSelect_spec hs) hQ n l a w hc (Region.free_spec hi hf) (by simpa using hr) (Or.inl ⟨hw, hy⟩) hS h
/-- Each of the operations rs comes up next. -/
def AllL (P : Program) (md : Region.Mode) (ops : Array Oper) (Q : Exit → Act → World → Prop) (S : World → Prop) (z : Nat) (n : Nat) (l : Array Bool) (a : Act) (w : World) (rs : List Nat) : Prop :=
  ∀ i ∈ rs, wpOp P ops Q i (fun a' w' => ((l.setIfInBounds i true).getD z true = false → S w') ∧ anyL P md ops Q S z n (l.setIfInBounds i true) a' w') a w
theorem AllL.nil {n : Nat} {l : Array Bool} {a : Act} {w : World} : AllL P md ops Q S z n l a w [] := fun _ h => by cases h
theorem AllL.cons {n : Nat} {l : Array Bool} {a : Act} {w : World} {i : Nat} {o : Oper} {rs : List Nat} (ho : ops[i]? = some o)
    (h : ∀ K : Act → World → Prop, Shut (∀ a w, S w → (S w → anyL P md ops Q S z n (l.setIfInBounds i true) a w) → K a w) → if Region.wanted o (yielded ops a.tmps) = true then Oper.wp P o a w K Q else K (a.put o.dst undef) w)
    (hs : AllL P md ops Q S z n l a w rs) : AllL P md ops Q S z n l a w (i :: rs) := fun j hj => by
  rcases List.mem_cons.1 hj with rfl | hj
  · exact wpOp_step ho (fun K hK => h K (fun a w hS hW => hK a w ⟨fun _ => hS, hW hS⟩))
  · exact hs j hj
/-- z itself. -/
theorem AllL.last {n : Nat} {l : Array Bool} {a : Act} {w : World} {o : Oper} (ho : ops[z]? = some o) (hl : (l.setIfInBounds z true).getD z true = true)
    (h : ∀ K : Act → World → Prop, Shut (∀ a w, anyL P md ops Q S z n (l.setIfInBounds z true) a w → K a w) → if Region.wanted o (yielded ops a.tmps) = true then Oper.wp P o a w K Q else K (a.put o.dst undef) w) : AllL P md ops Q S z n l a w [z] := fun j hj => by
  have : j = z := by simpa using hj
  subst this
  exact wpOp_step ho (fun K hK => h K (fun a w hW => hK a w ⟨fun h0 => (by rw [hl] at h0; cases h0), hW⟩))
theorem anyL_ready {rs : List Nat} {n : Nat} {l : Array Bool} {a : Act} {w : World} (hr : Region.ready md ops l = rs) (hne : rs ≠ []) (h : AllL P md ops Q S z n l a w rs) : anyL P md ops Q S z (n + 1) l a w :=
  ⟨fun h0 => absurd (hr ▸ h0) hne, hr ▸ h⟩
end
theorem skipH {P : Program} {md : Region.Mode} {ops : Array Oper} {Q : Exit → Act → World → Prop} {S : World → Prop} {i : Nat} {oi : Oper} {fuel : Nat} {listed : Array Bool} {a : Act} {w : World} (d : Option Tmp) (hi : ops[i]? = some oi) (hd : oi.dst = d)
    (hs : Region.noSelect ops = true) (hf : Region.free md ops listed i = true) (hr : (Region.ready md ops listed).contains i = true)
    (hQ : ∀ c a w, Q (.panic c) (a.put d undef) w → Q (.panic c) a w) (hw : Region.wanted oi (yielded ops a.tmps) = false) (hS : S w)
    (h : wpAnyH P md ops Q S fuel (listed.setIfInBounds i true) (a.put d undef) w) : wpAnyH P md ops Q S (fuel + 1) listed a w := by
  subst hd
  exact wpAnyH_take hi hs hf hr hQ (Or.inr ⟨hw, rfl⟩) hS h
theorem wpAnyH_less {P : Program} {md : Region.Mode} {ops : Array Oper} {Q : Exit → Act → World → Prop} {S S' : World → Prop} (hS : ∀ w, S' w → S w) : ∀ (n : Nat) (l : Array Bool) (a : Act) (w : World), wpAnyH P md ops Q S' n l a w → wpAnyH P md ops Q S n l a w
  | 0, _, _, _, h => h
  | n + 1, _, _, _, h => ⟨h.1, fun i hi => wpOp_mono (fun a' w' h' => ⟨hS _ h'.1, wpAnyH_less hS n _ a' w' h'.2⟩) (h.2 i hi)⟩
/-- One operation that yields. -/
theorem valV {P : Program} {o : Oper} {a : Act} {w : World} {K : Act → World → Prop} {Q : Exit → Act → World → Prop} (d : Option Tmp) (hd : o.dst = d) (v : Value) (hr : (execOp a.eval o).run P w = .ok (.value v) w) (h : K (a.put d v) w) : o.wp P a w K Q := by
  subst hd
  unfold Oper.wp
  rw [hr, Oper.upon_value]
  exact h
section
variable {P : Program} {ops : Array Oper} {Q : Exit → Act → World → Prop} {md : Region.Mode} {S : World → Prop} {z : Nat}
theorem anyL_pure {i : Nat} {oi : Oper} {v : Value} (hzi : z ≠ i) (hi : ops[i]? = some oi) (hsel : ∀ (j : Nat) (o : Oper) cs b, ops[j]? = some o → o.op ≠ .select cs b)
    (hQ : ∀ c a w, Q (.panic c) (a.put oi.dst v) w → Q (.panic c) a w) : ∀ (n : Nat) (l : Array Bool) (a : Act) (w : World),
      (∀ j oj, ops[j]? = some oj → j ≠ i → l.getD j true = false → (∀ e ∈ oj.after, Region.binds md e = true → e.on ≠ i) → oi.apart ops oj = true) →
      i ∈ Region.ready md ops l → YieldsIf P ops (fun _ => True) oi v a → (l.getD z true = false → S w) → anyL P md ops Q S z n (l.setIfInBounds i true) (a.put oi.dst v) w → anyL P md ops Q S z (n + 1) l a w
  | 0, l, a, w, _, hr, hy, hS, H => by
    refine ⟨fun h => (by rw [h] at hr; cases hr), fun j hj => ?_⟩
    by_cases hji : j = i
    · subst hji; exact hy.wpOp hi trivial ⟨fun h => hS (by rwa [getD_set_ne true (Ne.symm hzi)] at h), H⟩
    · have hm := ready_mono hj hji
      rw [H.1] at hm
      cases hm
  | n + 1, l, a, w, hfree, hr, hy, hS, H => by
    refine ⟨fun h => (by rw [h] at hr; cases hr), fun j hj => ?_⟩
    by_cases hji : j = i
    · subst hji; exact hy.wpOp hi trivial ⟨fun h => hS (by rwa [getD_set_ne true (Ne.symm hzi)] at h), H⟩
    · have h1 := H.2 j (ready_mono hj hji)
      obtain ⟨hun, oj, hoj, hall⟩ := mem_ready.1 hj
      have hiu := (mem_ready.1 hr).1
      have hno : ∀ e ∈ oj.after, Region.binds md e = true → e.on ≠ i := fun e he hb heq => by
        have x1 := hall e he hb
        rw [heq] at x1
        rcases Nat.lt_or_ge i l.size with h' | h'
        · simp [h'] at hiu x1; rw [hiu] at x1; cases x1
        · simp [Array.getElem?_eq_none h'] at x1
      have h2 := wpOp_putIf hoj (hfree j oj hoj hji hun hno) (fun cs b => hsel i oi cs b hi) (fun cs b => hsel j oj cs b hoj) hQ hy h1
      have hfree' : ∀ k ok, ops[k]? = some ok → k ≠ i → (l.setIfInBounds j true).getD k true = false → (∀ e ∈ ok.after, Region.binds md e = true → e.on ≠ i) → oi.apart ops ok = true := fun k ok hk hki hu hn => by
        refine hfree k ok hk hki ?_ hn
        by_cases hjk : j = k
        · subst hjk; exact hun
        · rw [getD_set_ne true hjk] at hu; exact hu
      refine wpOp_mono (fun a' w' h3 => ?_) h2
      obtain ⟨y3, s3, k3⟩ := h3
      have s4 : (l.setIfInBounds j true).getD z true = false → S w' := fun h => s3 (by rw [Array.setIfInBounds_comm _ _ (Ne.symm hji), getD_set_ne true (Ne.symm hzi)]; exact h)
      refine ⟨s4, anyL_pure hzi hi hsel hQ n _ a' w' hfree' (ready_mono hr (Ne.symm hji)) y3 s4 ?_⟩
      rw [Array.setIfInBounds_comm _ _ hji]
      exact k3
/-- An operation that yields in whatever world is taken first. -/
theorem takeP {i : Nat} {oi : Oper} {v : Value} {n : Nat} {l : Array Bool} {a : Act} {w : World} (d : Option Tmp) (hzi : (z == i) = false) (hi : ops[i]? = some oi) (hd : oi.dst = d)
    (hs : Region.noSelect ops = true) (hf : Region.free md ops l i = true) (hr : (Region.ready md ops l).contains i = true)
    (hQ : ∀ c a w, Q (.panic c) (a.put d v) w → Q (.panic c) a w) (hw : Region.wanted oi (yielded ops a.tmps) = true) (hy : ∀ w, (execOp a.eval oi).run P w = .ok (.value v) w) (hS : S w)
    (h : anyL P md ops Q S z n (l.setIfInBounds i true) (a.put d v) w) : anyL P md ops Q S z (n + 1) l a w := by
  subst hd
  exact anyL_pure (by simpa using hzi) hi (Region.noSelect_spec hs) hQ n l a w (Region.free_spec hi hf) (by simpa using hr) (Or.inl ⟨hw, fun w _ => hy w⟩) (fun _ => hS) h
/-- Behind z nothing need hold any more. -/
theorem AllL.free {i n : Nat} {l : Array Bool} {a : Act} {w : World} {o : Oper} (ho : ops[i]? = some o) (hl : (l.setIfInBounds i true).getD z true = true)
    (h : ∀ K : Act → World → Prop, Shut (∀ a w, anyL P md ops Q S z n (l.setIfInBounds i true) a w → K a w) → if Region.wanted o (yielded ops a.tmps) = true then Oper.wp P o a w K Q else K (a.put o.dst undef) w) : AllL P md ops Q S z n l a w [i] := fun j hj => by
  have : j = i := by simpa using hj
  subst this
  exact wpOp_step ho (fun K hK => h K (fun a w hW => hK a w ⟨fun h0 => (by rw [hl] at h0; cases h0), hW⟩))
end
end Go.Proofs.Ytpcejajidhfmpaa
namespace Go.Proofs.Ytpcejajidhfmpaa
open Go.RowKit
set_option linter.unusedVariables false

abbrev bC (b : Bt) : Array Value := #[.int .i64 b.n, .int .i64 b.nd, .int .i64 b.lf]
abbrev bV (b : Bt) : Value := .agg (bC b)
abbrev rC (p a : Bt) (v : Value) : Array Value := #[.int .i64 p.n, .int .i64 p.nd, .int .i64 p.lf, .int .i64 a.n, .int .i64 a.nd, .int .i64 a.lf, v]
abbrev rV (p a : Bt) (v : Value) : Value := .agg (rC p a v)
theorem info_bt (b : Bt) : (Try.prog.info? 23).map (·.size) = some (bC b).size := by kernel_rfl
theorem info_rg (p a : Bt) (v : Value) : (Try.prog.info? 61).map (·.size) = some (rC p a v).size := by kernel_rfl
theorem ok_foldB (p : Prop) [Decidable p] (b : Bool) (w : World) : (if p then Result.ok b w else Result.ok false w) = Result.ok (decide p && b) w := by
  by_cases h : p <;> simp [h]

set_option maxHeartbeats 400000 in
theorem bless_any (a b : Bt) (w : World) : Calls Try.prog 36 #[bV a, bV b] w fun e w' => e = .returned (.bool (lt3 a b)) ∧ Below w.heap.size w w' := by
  obtain ⟨a0, a1, a2⟩ := a
  obtain ⟨b0, b1, b2⟩ := b
  by_cases c : a0 = b0
  · by_cases d : a1 = b1
    · have hc : (a0 != b0) = false := by simp [c]
      have hd : (a1 != b1) = false := by simp [d]
      have HF : Hid (decide (a2 < b2) = lt3 ⟨a0, a1, a2⟩ ⟨b0, b1, b2⟩) := by show _ = _; unfold lt3; rw [decide_eq_decide]; dsimp only; omega
      clear c d
      go_enter Try.func36, Try.ntmps36
      go_wp2_with fail
      go_ret
      exact ⟨ret_bool HF.out, by repeat (first | exact Below.refl _ _ | refine ab_alloc ?_ _)⟩
    · have hc : (a0 != b0) = false := by simp [c]
      have hd : (a1 != b1) = true := by simp [d]
      have HF : Hid (decide (a1 < b1) = lt3 ⟨a0, a1, a2⟩ ⟨b0, b1, b2⟩) := by show _ = _; unfold lt3; rw [decide_eq_decide]; dsimp only; omega
      clear c d
      go_enter Try.func36, Try.ntmps36
      go_wp2_with fail
      go_ret
      exact ⟨ret_bool HF.out, by repeat (first | exact Below.refl _ _ | refine ab_alloc ?_ _)⟩
  · have hc : (a0 != b0) = true := by simp [c]
    have HF : Hid (decide (a0 < b0) = lt3 ⟨a0, a1, a2⟩ ⟨b0, b1, b2⟩) := by show _ = _; unfold lt3; rw [decide_eq_decide]; dsimp only; omega
    clear c
    go_enter Try.func36, Try.ntmps36
    go_wp2_with fail
    go_ret
    exact ⟨ret_bool HF.out, by repeat (first | exact Below.refl _ _ | refine ab_alloc ?_ _)⟩
set_option maxHeartbeats 400000 in
theorem rbless_any (a b : Bt) (w : World) : Calls Try.prog 14 #[bV a, bV b] w fun e w' => e = .returned (.bool (lt3 a b)) ∧ Below w.heap.size w w' := by
  obtain ⟨a0, a1, a2⟩ := a
  obtain ⟨b0, b1, b2⟩ := b
  by_cases c : a0 = b0
  · by_cases d : a1 = b1
    · have hc : (a0 != b0) = false := by simp [c]
      have hd : (a1 != b1) = false := by simp [d]
      have HF : Hid (decide (a2 < b2) = lt3 ⟨a0, a1, a2⟩ ⟨b0, b1, b2⟩) := by show _ = _; unfold lt3; rw [decide_eq_decide]; dsimp only; omega
      clear c d
      go_enter Try.func14, Try.ntmps14
      go_wp2_with fail
      go_ret
      exact ⟨ret_bool HF.out, by repeat (first | exact Below.refl _ _ | refine ab_alloc ?_ _)⟩
    · have hc : (a0 != b0) = false := by simp [c]
      have hd : (a1 != b1) = true := by simp [d]
      have HF : Hid (decide (a1 < b1) = lt3 ⟨a0, a1, a2⟩ ⟨b0, b1, b2⟩) := by show _ = _; unfold lt3; rw [decide_eq_decide]; dsimp only; omega
      clear c d
      go_enter Try.func14, Try.ntmps14
      go_wp2_with fail
      go_ret
      exact ⟨ret_bool HF.out, by repeat (first | exact Below.refl _ _ | refine ab_alloc ?_ _)⟩
  · have hc : (a0 != b0) = true := by simp [c]
    have HF : Hid (decide (a0 < b0) = lt3 ⟨a0, a1, a2⟩ ⟨b0, b1, b2⟩) := by show _ = _; unfold lt3; rw [decide_eq_decide]; dsimp only; omega
    clear c
    go_enter Try.func14, Try.ntmps14
    go_wp2_with fail
    go_ret
    exact ⟨ret_bool HF.out, by repeat (first | exact Below.refl _ _ | refine ab_alloc ?_ _)⟩
theorem and3 (x y z : Int) : (decide (x = 0) && (decide (y = 0) && decide (z = 0))) = noB ⟨x, y, z⟩ := by
  unfold noB
  rw [Bool.eq_iff_iff]
  simp
theorem wh_1 {b : Bt} (h : ¬ 0 ≤ b.n) : whB b = false := by unfold whB; exact decide_eq_false (by omega)
theorem wh_2 {b : Bt} (h : ¬ 0 ≤ b.nd) : whB b = false := by unfold whB; exact decide_eq_false (by omega)
theorem wh_3 {b : Bt} (h0 : 0 ≤ b.n) (h1 : 0 ≤ b.nd) : decide (0 ≤ b.lf) = whB b := by unfold whB; rw [decide_eq_decide]; omega
set_option maxHeartbeats 400000 in
theorem whole_any (b : Bt) (w : World) : Calls Try.prog 54 #[bV b] w fun e w' => e = .returned (.bool (whB b)) ∧ Below w.heap.size w w' := by
  by_cases c : 0 ≤ b.n
  · by_cases d : 0 ≤ b.nd
    · have HF : Hid (decide (0 ≤ b.lf) = whB b) := wh_3 c d
      go_enter Try.func54, Try.ntmps54
      go_wp2_with fail
      go_ret
      exact ⟨ret_bool HF.out, ab_alloc (Below.refl _ _) _⟩
    · have HF : Hid (whB b = false) := wh_2 d
      go_enter Try.func54, Try.ntmps54
      go_wp2_with fail
      go_ret
      exact ⟨ret_bool HF.out.symm, ab_alloc (Below.refl _ _) _⟩
  · have HF : Hid (whB b = false) := wh_1 c
    go_enter Try.func54, Try.ntmps54
    go_wp2_with fail
    go_ret
    exact ⟨ret_bool HF.out.symm, ab_alloc (Below.refl _ _) _⟩
section
attribute [local go_sem] ok_foldB
set_option maxHeartbeats 400000 in
theorem isNone_any (b : Bt) (w : World) : Calls Try.prog 55 #[bV b] w fun e w' => e = .returned (.bool (noB b)) ∧ Below w.heap.size w w' := by
  go_enter Try.func55, Try.ntmps55
  go_wp2_with fail
  go_ret
  exact ⟨ret_bool (and3 _ _ _), ab_alloc (Below.refl _ _) _⟩
end
/-- Three, seven cells of a block, in every world in which nothing of it has turned. -/
theorem cells3 {W : World} {g : Nat} {b : Bt} {t : TypeId} (h : Blk W g (bC b) t) : (∀ V, Below W.heap.size W V → V.cell? ⟨g, 0, none⟩ = some (.int .i64 b.n)) ∧ (∀ V, Below W.heap.size W V → V.cell? ⟨g, 1, none⟩ = some (.int .i64 b.nd)) ∧ (∀ V, Below W.heap.size W V → V.cell? ⟨g, 2, none⟩ = some (.int .i64 b.lf)) :=
  ⟨fun V hb => (h.keep hb).at rfl, fun V hb => (h.keep hb).at rfl, fun V hb => (h.keep hb).at rfl⟩
theorem cells7 {W : World} {g : Nat} {p a : Bt} {v : Value} {t : TypeId} (h : Blk W g (rC p a v) t) : (∀ V, Below W.heap.size W V → V.cell? ⟨g, 0, none⟩ = some (.int .i64 p.n)) ∧ (∀ V, Below W.heap.size W V → V.cell? ⟨g, 1, none⟩ = some (.int .i64 p.nd)) ∧ (∀ V, Below W.heap.size W V → V.cell? ⟨g, 2, none⟩ = some (.int .i64 p.lf)) ∧
    (∀ V, Below W.heap.size W V → V.cell? ⟨g, 3, none⟩ = some (.int .i64 a.n)) ∧ (∀ V, Below W.heap.size W V → V.cell? ⟨g, 4, none⟩ = some (.int .i64 a.nd)) ∧ (∀ V, Below W.heap.size W V → V.cell? ⟨g, 5, none⟩ = some (.int .i64 a.lf)) ∧ (∀ V, Below W.heap.size W V → V.cell? ⟨g, 6, none⟩ = some v) :=
  ⟨fun V hb => (h.keep hb).at rfl, fun V hb => (h.keep hb).at rfl, fun V hb => (h.keep hb).at rfl, fun V hb => (h.keep hb).at rfl, fun V hb => (h.keep hb).at rfl, fun V hb => (h.keep hb).at rfl, fun V hb => (h.keep hb).at rfl⟩
set_option maxHeartbeats 400000 in
theorem asks_any (b : Bt) (w : World) : Calls Try.prog 49 #[bV b] w fun e w' => e = .returned (.bool (asB b)) ∧ Below w.heap.size w w' := by
  go_enter Try.func49, Try.ntmps49
  go_upto_region 1 with fail
  obtain ⟨A, hAe, hB, hw⟩ := blk1 w (bC b) 23
  rw [hAe]
  obtain ⟨c0, c1, c2⟩ := cells3 hB
  have hbv := Below.refl A.heap.size A
  clear hAe hB
  go_wp2_with fail
  refine (whole_any b _).mono ?_
  rintro e W1 ⟨rfl, b1⟩
  have hbv := ab_trans hbv b1
  cases h1 : whB b
  · have HF : Hid (asB b = false) := by show _ = _; unfold asB; rw [h1]; rfl
    go_wp2_with fail
    go_ret
    exact ⟨ret_bool HF.out.symm, ab_trans hw hbv⟩
  · have HF : Hid ((!noB b) = asB b) := by show _ = _; unfold asB; rw [h1]; rfl
    go_wp2_with fail
    refine (isNone_any b _).mono ?_
    rintro e W2 ⟨rfl, b2⟩
    have hbv := ab_trans hbv b2
    go_wp2_with fail
    go_ret
    exact ⟨ret_bool HF.out, ab_trans hw hbv⟩
def nxB (b : Bt) (d f : Int) : Bt := ⟨wrap64 (b.n + 1), d, f⟩
set_option maxHeartbeats 400000 in
theorem bnext_any (b : Bt) (d f : Int) (w : World) : Calls Try.prog 43 #[bV b, .int .i64 d, .int .i64 f] w fun e w' => e = .returned (bV (nxB b d f)) ∧ Below w.heap.size w w' := by
  go_enter Try.func43, Try.ntmps43
  go_wp2_with fail
  refine bodyPost_ret (v := bV (nxB b d f)) (by simp [results, Try.results43, go_sem, nxB]) rfl ⟨rfl, ?_⟩
  repeat (first | exact Below.refl _ _ | refine ab_set ?_ (by dsimp only; omega) _ | refine ab_alloc ?_ _)
theorem gd_1 {p a : Bt} {n : Nat} (h : whB p = false) : gdN p a n = false := by unfold gdN; rw [h]; rfl
theorem gd_2 {p a : Bt} {n : Nat} (h : whB a = false) : gdN p a n = false := by unfold gdN; rw [h]; simp
theorem gd_3 {p a : Bt} {n : Nat} (h : lt3 p a = true) : gdN p a n = false := by unfold gdN; rw [h]; simp
theorem gd_4 {p a : Bt} {n : Nat} (h1 : whB p = true) (h2 : whB a = true) (h3 : lt3 p a = false) (h4 : noB a = true) : decide (n = 0) = gdN p a n := by unfold gdN; rw [h1, h2, h3, h4]; simp
theorem gd_5 {p a : Bt} {n : Nat} (h1 : whB p = true) (h2 : whB a = true) (h3 : lt3 p a = false) (h4 : noB a = false) : decide (n ≤ 32) = gdN p a n := by unfold gdN; rw [h1, h2, h3, h4]; simp
set_option maxHeartbeats 400000 in
theorem good9_any (p a : Bt) (q : Option Addr) (n c : Nat) (w : World) : Calls Try.prog 48 #[rV p a (.slice q n c)] w fun e w' => e = .returned (.bool (gdN p a n)) ∧ Below w.heap.size w w' := by
  go_enter Try.func48, Try.ntmps48
  go_upto_region 1 with fail
  obtain ⟨A, hAe, hB, hw⟩ := blk1 w (rC p a (.slice q n c)) 61
  rw [hAe]
  obtain ⟨c0, c1, c2, c3, c4, c5, c6⟩ := cells7 hB
  have hbv := Below.refl A.heap.size A
  clear hAe hB
  go_wp2_with fail
  refine (whole_any p _).mono ?_
  rintro e W1 ⟨rfl, b1⟩
  have hbv := ab_trans hbv b1
  cases h1 : whB p
  · have HF : Hid (gdN p a n = false) := gd_1 h1
    go_wp2_with fail
    go_ret
    exact ⟨ret_bool HF.out.symm, ab_trans hw hbv⟩
  · go_wp2_with fail
    refine (whole_any a _).mono ?_
    rintro e W2 ⟨rfl, b2⟩
    have hbv := ab_trans hbv b2
    cases h2 : whB a
    · have HF : Hid (gdN p a n = false) := gd_2 h2
      go_wp2_with fail
      go_ret
      exact ⟨ret_bool HF.out.symm, ab_trans hw hbv⟩
    · go_wp2_with fail
      refine (bless_any p a _).mono ?_
      rintro e W3 ⟨rfl, b3⟩
      have hbv := ab_trans hbv b3
      cases h3 : lt3 p a
      · go_wp2_with fail
        refine (isNone_any a _).mono ?_
        rintro e W4 ⟨rfl, b4⟩
        have hbv := ab_trans hbv b4
        cases h4 : noB a
        · have HF : Hid (decide (n ≤ 32) = gdN p a n) := gd_5 h1 h2 h3 h4
          go_wp2_with fail
          go_ret
          refine ⟨ret_bool (Eq.trans ?_ HF.out), ab_trans hw hbv⟩
          rw [decide_eq_decide]; omega
        · have HF : Hid (decide (n = 0) = gdN p a n) := gd_4 h1 h2 h3 h4
          go_wp2_with fail
          go_ret
          refine ⟨ret_bool (Eq.trans ?_ HF.out), ab_trans hw hbv⟩
          first | (rw [decide_eq_decide]; omega) | (rw [Bool.eq_iff_iff]; simp)
      · have HF : Hid (gdN p a n = false) := gd_3 h3
        go_wp2_with fail
        go_ret
        exact ⟨ret_bool HF.out.symm, ab_trans hw hbv⟩
end Go.Proofs.Ytpcejajidhfmpaa
