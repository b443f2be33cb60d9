/-
  plan's calls: Check, Lanes, count, Nodes, Role, span, Node.
-/
import Derived.Test.YtnooedipanhkjaaPnA
namespace Go.Proofs.Ytnooedipanhkjaa
open Go.RowKit
set_option linter.unusedVariables false
set_option maxRecDepth 100000

/-- How many nodes there are, by role. -/
def pnS (p : Pn) : Int := if gdP p then p.so else 0
def pnT (p : Pn) : Int := if gdP p then 2 else 0
def pnK (p : Pn) : Int := if gdP p then p.ke else 0
def pnI (p : Pn) : Int := if gdP p then 1 else 0
theorem up_iff {n m : Int} : upB n m = true ↔ 1 ≤ n ∧ n ≤ m := by unfold upB; simp
theorem gd_bd {p : Pn} (h : gdP p = true) : (1 ≤ p.so ∧ p.so ≤ 4) ∧ (p.ke = 1 ∨ p.ke = 3 ∨ p.ke = 5) ∧ (1 ≤ (p.l.length : Int) ∧ (p.l.length : Int) ≤ 3) ∧ (1 ≤ p.sh ∧ p.sh ≤ 4) := by
  unfold gdP at h
  simp only [Bool.and_eq_true, up_iff, beq_iff_eq] at h
  obtain ⟨⟨⟨⟨⟨⟨⟨⟨⟨h1, h2⟩, h3⟩, h4⟩, h5⟩, h6⟩, h7⟩, h8⟩, h9⟩, h10⟩ := h
  refine ⟨h1, ?_, h4, h6⟩
  have : p.ke = 1 ∨ p.ke = 2 ∨ p.ke = 3 ∨ p.ke = 4 ∨ p.ke = 5 := by omega
  rcases this with e | e | e | e | e
  · exact .inl e
  · rw [e] at h3; exact absurd h3 (by decide)
  · exact .inr (.inl e)
  · rw [e] at h3; exact absurd h3 (by decide)
  · exact .inr (.inr e)
theorem n_bd (p : Pn) : (0 ≤ pnS p ∧ pnS p ≤ 4) ∧ (0 ≤ pnT p ∧ pnT p ≤ 2) ∧ (0 ≤ pnK p ∧ pnK p ≤ 5) ∧ (0 ≤ pnI p ∧ pnI p ≤ 1) := by
  unfold pnS pnT pnK pnI
  by_cases h : gdP p = true
  · have := gd_bd h
    simp only [h, if_true]
    omega
  · simp only [h, if_false, Bool.false_eq_true]
    omega
theorem n_yes {p : Pn} (h : gdP p = true) : pnS p = p.so ∧ pnT p = 2 ∧ pnK p = p.ke ∧ pnI p = 1 := by
  unfold pnS pnT pnK pnI; simp [h]
theorem n_no {p : Pn} (h : gdP p = false) : pnS p = 0 ∧ pnT p = 0 ∧ pnK p = 0 ∧ pnI p = 0 := by
  unfold pnS pnT pnK pnI; simp [h]
abbrev fiveC (a b c d : Int) : Array Value := #[.int .i64 0, .int .i64 a, .int .i64 b, .int .i64 c, .int .i64 d]
theorem info_five : (Try.prog.info? 49).map (·.size) = some 5 := by kernel_rfl

section
variable {ops : Array Oper} {rest : List Oper} {o : Oper} {a : Act} {w : World} {Q : Exit → Act → World → Prop}
/-- One of five numbers. -/
theorem ix_five (hw : Region.wanted o (yielded ops a.tmps) = true) {x y : Operand} (ho : o.op = .index 49 x y) {n0 n1 n2 n3 n4 : Int} (hx : a.eval x = .agg #[.int .i64 n0, .int .i64 n1, .int .i64 n2, .int .i64 n3, .int .i64 n4]) {k : Nat} (hy : a.eval y = .int .i64 (k : Int)) {v : Value} (hv : (#[Value.int .i64 n0, .int .i64 n1, .int .i64 n2, .int .i64 n3, .int .i64 n4] : Array Value)[k]? = some v)
    (h : wpList Try.prog ops Q rest (a.put o.dst v) w) : wpList Try.prog ops Q (o :: rest) a w := by
  refine valS hw v ?_ h
  have hk : k < 5 := by have := (Array.getElem?_eq_some_iff.1 hv).1; simpa using this
  have hs : (sizeOf 3).run Try.prog w = .ok 1 w := by kernel_rfl
  unfold execOp
  simp only [ho, hx, hy, Sem.run_bind]
  unfold Instr.index
  simp only [asIntOf, Sem.run_bind, Sem.run_pure, Result.andThen_ok, run_underlying Try.underlying49]
  rw [if_pos (by omega)]
  have hv' : ([Value.int .i64 n0, .int .i64 n1, .int .i64 n2, .int .i64 n3, .int .i64 n4] : List Value)[k]? = some v := by simpa using hv
  simp [hs, Result.andThen_ok, part, Int.toNat_natCast, hv']
end
theorem pcount_any (p : Pn) (w : World) (hv : Is w p.v p.l) :
    Calls Try.prog 22 #[pnV p] w fun e w' => e = .returned (.agg (fiveC (pnS p) (pnT p) (pnK p) (pnI p))) ∧ Below w.heap.size w w' := by
  obtain ⟨A, hAe, hX, hZ, hw⟩ := blk2 w (pnC p) (fiveC 0 0 0 0) 24 49
  have HG := pgood_any p A (hv.keep hw)
  have x0 : A.cell? ⟨w.heap.size, 0, none⟩ = some (.int .i64 p.so) := hX.at rfl
  have x1 : A.cell? ⟨w.heap.size, 1, none⟩ = some (.int .i64 p.ke) := hX.at rfl
  have hs : w.heap.size + 1 < A.heap.size := hZ.lt
  cases hg : gdP p
  · rw [hg] at HG
    obtain ⟨e1, e2, e3, e4⟩ := n_no hg
    rw [e1, e2, e3, e4]
    clear hg e1 e2 e3 e4 hv
    go_enter Try.func22, Try.ntmps22
    go_upto_region 1 with fail
    clear hAe
    go_upto_region 2 with (first
      | (refine ld_blk rfl rfl hX rfl _ Try.underlying24 rfl info_pn ?_)
      | (go_at_call 21; refine HG.mono ?_; rintro e W ⟨rfl, b1⟩))
    have hZ1 := hZ.keep b1
    clear hZ HG hX x0 x1
    go_wp2_with (first
      | (refine st_blk rfl rfl hZ1 rfl rfl info_five rfl (by simp [Value.oneCell']) ?_; intro W2 hX2 C2))
    exact bodyPost_ret (results_cell_row rfl _ _ _ 49 _ (0, 0) _ rfl hX2 Try.underlying49 rfl info_five) rfl ⟨rfl, ab_chg (ab_trans hw b1) C2 (by omega)⟩
  · rw [hg] at HG
    obtain ⟨e1, e2, e3, e4⟩ := n_yes hg
    rw [e1, e2, e3, e4]
    clear hg e1 e2 e3 e4 hv
    go_enter Try.func22, Try.ntmps22
    go_upto_region 1 with fail
    clear hAe
    go_upto_region 3 with (first
      | (refine ld_blk rfl rfl hX rfl _ Try.underlying24 rfl info_pn ?_)
      | (go_at_call 21; refine HG.mono ?_; rintro e W ⟨rfl, b1⟩))
    have hZ1 := hZ.keep b1
    have x0 : W.cell? ⟨w.heap.size, 0, none⟩ = some (.int .i64 p.so) := (hX.keep b1).at rfl
    have x1 : W.cell? ⟨w.heap.size, 1, none⟩ = some (.int .i64 p.ke) := (hX.keep b1).at rfl
    clear hZ HG hX
    go_wp2_with (first
      | (refine st_blk rfl rfl hZ1 rfl rfl info_five rfl (by simp [Value.oneCell']) ?_; intro W2 hX2 C2))
    exact bodyPost_ret (results_cell_row rfl _ _ _ 49 _ (0, 0) _ rfl hX2 Try.underlying49 rfl info_five) rfl ⟨rfl, ab_chg (ab_trans hw b1) C2 (by omega)⟩
theorem pcheck_any (p : Pn) (w : World) (hv : Is w p.v p.l) :
    Calls Try.prog 9 #[pnV p] w fun e w' => e = .returned (if gdP p then .nilIface else Err 14) ∧ Below w.heap.size w w' := by
  obtain ⟨A, hAe, hX, hw⟩ := blk1 w (pnC p) 24
  have HG := pgood_any p A (hv.keep hw)
  cases hg : gdP p
  all_goals
    rw [hg] at HG
    clear hg hv
    go_enter Try.func9, Try.ntmps9
    go_upto_region 1 with fail
    clear hAe
    go_wp2_with (first
      | (refine ld_blk rfl rfl hX rfl _ Try.underlying24 rfl info_pn ?_)
      | (go_at_call 21; refine HG.mono ?_; rintro e W ⟨rfl, b1⟩))
    go_ret
    exact ⟨rfl, ab_trans hw b1⟩
def lnP (p : Pn) : Int := if gdP p then (p.l.length : Int) * p.sh else 0
theorem ln_small {p : Pn} (h : gdP p = true) : wrap64 ((p.l.length : Int) * p.sh) = (p.l.length : Int) * p.sh ∧ 1 ≤ (p.l.length : Int) * p.sh ∧ (p.l.length : Int) * p.sh ≤ 12 := by
  obtain ⟨-, -, ⟨h1, h2⟩, h3, h4⟩ := gd_bd h
  have h5 : (p.l.length : Int) * p.sh ≤ 3 * 4 := Int.mul_le_mul h2 h4 (by omega) (by omega)
  have h6 : (1 : Int) * 1 ≤ (p.l.length : Int) * p.sh := Int.mul_le_mul h1 h3 (by omega) (by omega)
  refine ⟨?_, by omega, by omega⟩
  unfold wrap64; omega
theorem planes_any (p : Pn) (w : World) (hv : Is w p.v p.l) :
    Calls Try.prog 11 #[pnV p] w fun e w' => e = .returned (.int .i64 (lnP p)) ∧ Below w.heap.size w w' := by
  obtain ⟨A, hAe, hX, hw⟩ := blk1 w (pnC p) 24
  have HG := pgood_any p A (hv.keep hw)
  obtain ⟨q, cap, ev⟩ := hv.form
  cases hg : gdP p
  · have HL : Hid (lnP p = 0) := by show _ = _; unfold lnP; rw [hg]; rfl
    rw [hg] at HG
    clear hg hv
    go_enter Try.func11, Try.ntmps11
    go_upto_region 1 with fail
    clear hAe
    go_wp2_with (first
      | (refine ld_blk rfl rfl hX rfl _ Try.underlying24 rfl info_pn ?_)
      | (go_at_call 21; refine HG.mono ?_; rintro e W ⟨rfl, b1⟩))
    go_ret
    exact ⟨by rw [HL.out]; rfl, ab_trans hw b1⟩
  · have HL : Hid (lnP p = wrap64 ((p.l.length : Int) * p.sh)) := by show _ = _; rw [(ln_small hg).1]; unfold lnP; rw [hg]; rfl
    rw [hg] at HG
    clear hg hv
    obtain ⟨so, ke, v, l, sh, ho, ce, ba, le⟩ := p
    dsimp only at ev HL
    subst ev
    generalize l.length = n at *
    go_enter Try.func11, Try.ntmps11
    go_upto_region 1 with fail
    clear hAe
    go_upto_region 3 with (first
      | (refine ld_blk rfl rfl hX rfl _ Try.underlying24 rfl info_pn ?_)
      | (go_at_call 21; refine HG.mono ?_; rintro e W ⟨rfl, b1⟩))
    have x2 : W.cell? ⟨w.heap.size, 2, none⟩ = some (.slice q n cap) := (hX.keep b1).at rfl
    have x3 : W.cell? ⟨w.heap.size, 3, none⟩ = some (.int .i64 sh) := (hX.keep b1).at rfl
    clear hX HG
    go_wp2_with fail
    go_ret
    exact ⟨by rw [HL.out]; rfl, ab_trans hw b1⟩
theorem pnodes_any (p : Pn) (w : World) (hv : Is w p.v p.l) :
    Calls Try.prog 12 #[pnV p] w fun e w' => e = .returned (.int .i64 (pnS p + pnT p + pnK p + pnI p)) ∧ Below w.heap.size w w' := by
  obtain ⟨A, hAe, hX, hw⟩ := blk1 w (pnC p) 24
  have HG := pcount_any p A (hv.keep hw)
  obtain ⟨hb1, hb2, hb3, hb4⟩ := n_bd p
  generalize pnS p = a at *
  generalize pnT p = b at *
  generalize pnK p = c at *
  generalize pnI p = d at *
  clear hv
  go_enter Try.func12, Try.ntmps12
  go_upto_region 2 with fail
  clear hAe
  go_wp2_with (first
    | (refine ld_blk rfl rfl hX rfl _ Try.underlying24 rfl info_pn ?_)
    | (go_at_call 22; refine HG.mono ?_; rintro e W ⟨rfl, b1⟩))
  have hwW := ab_trans hw b1
  clear hX HG hw b1
  go_loopw [3, 8] (fun n i wr => wr = W ∧ ((i = .int .i64 0 ∧ n = .int .i64 0) ∨ (i = .int .i64 1 ∧ n = .int .i64 0) ∨ (i = .int .i64 2 ∧ n = .int .i64 a) ∨ (i = .int .i64 3 ∧ n = .int .i64 (a + b)) ∨ (i = .int .i64 4 ∧ n = .int .i64 (a + b + c)) ∨ (i = .int .i64 5 ∧ n = .int .i64 (a + b + c + d)))) (fun _ i _ => 5 - (intOf i).toNat)
  case atStart => exact ⟨rfl, .inl ⟨rfl, rfl⟩⟩
  case round =>
    obtain ⟨rfl, h⟩ := hrel
    rcases h with ⟨rfl, rfl⟩ | ⟨rfl, rfl⟩ | ⟨rfl, rfl⟩ | ⟨rfl, rfl⟩ | ⟨rfl, rfl⟩ | ⟨rfl, rfl⟩
    · go_wp2_with (refine ix_five (k := 0) rfl rfl rfl rfl rfl ?_)
      go_roundw
      case rel => exact ⟨trivial, .inr (.inl ⟨rfl, by go_num⟩)⟩
      case measure => simp [intOf]
    · go_wp2_with (refine ix_five (k := 1) rfl rfl rfl rfl rfl ?_)
      go_roundw
      case rel => exact ⟨trivial, .inr (.inr (.inl ⟨rfl, by go_num⟩))⟩
      case measure => simp [intOf]
    · go_wp2_with (refine ix_five (k := 2) rfl rfl rfl rfl rfl ?_)
      go_roundw
      case rel => exact ⟨trivial, .inr (.inr (.inr (.inl ⟨rfl, by go_num⟩)))⟩
      case measure => simp [intOf]
    · go_wp2_with (refine ix_five (k := 3) rfl rfl rfl rfl rfl ?_)
      go_roundw
      case rel => exact ⟨trivial, .inr (.inr (.inr (.inr (.inl ⟨rfl, by go_num⟩))))⟩
      case measure => simp [intOf]
    · go_wp2_with (refine ix_five (k := 4) rfl rfl rfl rfl rfl ?_)
      go_roundw
      case rel => exact ⟨trivial, .inr (.inr (.inr (.inr (.inr ⟨rfl, by go_num⟩))))⟩
      case measure => simp [intOf]
    · go_wp2_with fail
      go_ret
      exact ⟨rfl, hwW⟩
end Go.Proofs.Ytnooedipanhkjaa
