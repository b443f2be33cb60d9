/-
  The chapter's example: estuarylaw19.alive; '==' of errors that plan answers.
-/
import Derived.Test.YtnooedipanhkjaaPnG
namespace Go.Proofs.Ytnooedipanhkjaa
open Go.RowKit
set_option linter.unusedVariables false
set_option maxRecDepth 100000

theorem eq19_nil (w : World) : (binOp .eql 27 .nilIface .nilIface).run Try.prog w = .ok (.bool true) w := by kernel_rfl
theorem eq19_err (w : World) : (binOp .eql 27 (Err 14) .nilIface).run Try.prog w = .ok (.bool false) w := by kernel_rfl
theorem ne19_nil (w : World) : (binOp .neq 27 .nilIface .nilIface).run Try.prog w = .ok (.bool false) w := by kernel_rfl
theorem ne19_err (w : World) : (binOp .neq 27 (Err 14) .nilIface).run Try.prog w = .ok (.bool true) w := by kernel_rfl
theorem eq19_both (w : World) : (binOp .eql 27 (Err 14) (Err 14)).run Try.prog w = .ok (.bool true) w := by kernel_rfl
theorem eq19_some (w : World) : (binOp .eql 27 .nilIface (Err 14)).run Try.prog w = .ok (.bool false) w := by kernel_rfl
abbrev zeroP : Array Value := #[.int .i64 0, .int .i64 0, .slice none 0 0, .int .i64 0, .int .i64 0, .int .i64 0, .int .i64 0, .int .i64 0]
theorem zero_pn (w : World) : (zeroValue 24).run Try.prog w = .ok (.agg zeroP) w := by kernel_rfl
theorem ex_good (v : Value) : gdP ⟨2, 3, v, [10], 1, 4, 9, 2, 3⟩ = true := rfl
theorem ex_n (v : Value) : pnS ⟨2, 3, v, [10], 1, 4, 9, 2, 3⟩ = 2 ∧ pnT ⟨2, 3, v, [10], 1, 4, 9, 2, 3⟩ = 2 ∧ pnK ⟨2, 3, v, [10], 1, 4, 9, 2, 3⟩ = 3 ∧ pnI ⟨2, 3, v, [10], 1, 4, 9, 2, 3⟩ = 1 := ⟨rfl, rfl, rfl, rfl⟩
theorem ld_pnr {o : Oper} {ρ : Operand → Value} {x : Operand} {b : Nat} {p : Pn} {t : TypeId} {w : World} (ho : o.op = .load 24 x) (hx : ρ x = .pointer (some ⟨b, 0, none⟩)) (hB : Blk w b (pnC p) t) :
    (execOp ρ o).run Try.prog w = .ok (.value (pnV p)) w := by
  unfold execOp
  simp only [ho, hx, Instr.loadAt, Instr.sureAddr, Sem.run_bind, Sem.run_pure, Result.andThen_ok, run_loadVar_row w b t 24 (pnC p) (0, 0) _ hB Try.underlying24 rfl info_pn]
theorem lw_pn {ops : Array Oper} {rest : List Oper} {o : Oper} {a : Act} {w : World} {Q : Exit → Act → World → Prop} (hw : Region.wanted o (yielded ops a.tmps) = true) {x : Operand} {b : Nat} {p : Pn} {t : TypeId} (ho : o.op = .load 24 x) (hx : a.eval x = .pointer (some ⟨b, 0, none⟩)) (hB : Blk w b (pnC p) t)
    (h : wpList Try.prog ops Q rest (a.put o.dst (pnV p)) w) : wpList Try.prog ops Q (o :: rest) a w := valS hw _ (ld_pnr ho hx hB) h
theorem q_ld_pn {ops : Array Oper} {w : World} {Q : Act → Prop} {a : Act} {o : Oper} {rest : List Oper} {x : Operand} {b : Nat} {p : Pn} {t : TypeId} (hw : Region.wanted o (yielded ops a.tmps) = true)
    (ho : o.op = .load 24 x) (hx : a.eval x = .pointer (some ⟨b, 0, none⟩)) (hB : Blk w b (pnC p) t) (h : wpQuiet Try.prog ops (fun w' => ∃ x : Cls w, w' = x.val) Q rest (a.put o.dst (pnV p))) :
    wpQuiet Try.prog ops (fun w' => ∃ x : Cls w, w' = x.val) Q (o :: rest) a :=
  quiet_val hw _ (fun w' ⟨x, hx'⟩ => ld_pnr ho hx (hx' ▸ hB.keep x.prop)) h
set_option maxHeartbeats 2000000 in
theorem alive19_any (w : World) : Calls Try.prog 8 #[] w fun e w' => e = .returned (.bool true) ∧ Below w.heap.size w w' := by
  have HND := pnode_any ⟨2, 3, .slice (some ⟨w.heap.size, 0, none⟩) 1 1, [10], 1, 4, 9, 2, 3⟩ 4 0
  have HRL := fun w hv => prole_any ⟨2, 3, .slice (some ⟨w.heap.size, 0, none⟩) 1 1, [10], 1, 4, 9, 2, 3⟩ 5 w hv (by omega) (by omega)
  obtain ⟨n1, n2, n3, n4⟩ := ex_n (.slice (some ⟨w.heap.size, 0, none⟩) 1 1)
  have HND : ∀ W, Is W (.slice (some ⟨w.heap.size, 0, none⟩) 1 1) [10] → Calls Try.prog 18 #[pnV ⟨2, 3, .slice (some ⟨w.heap.size, 0, none⟩) 1 1, [10], 1, 4, 9, 2, 3⟩, .int .i64 4, .int .i64 0] W fun e w' => e = .returned (ndV (7, true)) ∧ Below W.heap.size W w' := fun W hW => by
    have := pnode_any ⟨2, 3, .slice (some ⟨w.heap.size, 0, none⟩) 1 1, [10], 1, 4, 9, 2, 3⟩ 4 0 W hW
    rw [n1, n2, n3, n4] at this
    exact this
  have HRL : ∀ W, Is W (.slice (some ⟨w.heap.size, 0, none⟩) 1 1) [10] → Calls Try.prog 17 #[pnV ⟨2, 3, .slice (some ⟨w.heap.size, 0, none⟩) 1 1, [10], 1, 4, 9, 2, 3⟩, .int .i64 5] W fun e w' => e = .returned (rlV (3, 1, true)) ∧ Below W.heap.size W w' := fun W hW => by
    have := prole_any ⟨2, 3, .slice (some ⟨w.heap.size, 0, none⟩) 1 1, [10], 1, 4, 9, 2, 3⟩ 5 W hW (by omega) (by omega)
    rw [n1, n2, n3, n4] at this
    exact this
  have HCK : ∀ W, Is W (.slice (some ⟨w.heap.size, 0, none⟩) 1 1) [10] → Calls Try.prog 9 #[pnV ⟨2, 3, .slice (some ⟨w.heap.size, 0, none⟩) 1 1, [10], 1, 4, 9, 2, 3⟩] W fun e w' => e = .returned .nilIface ∧ Below W.heap.size W w' := fun W hW => by
    have := pcheck_any ⟨2, 3, .slice (some ⟨w.heap.size, 0, none⟩) 1 1, [10], 1, 4, 9, 2, 3⟩ W hW
    rw [ex_good] at this
    exact this
  have HNS : ∀ W, Is W (.slice (some ⟨w.heap.size, 0, none⟩) 1 1) [10] → Calls Try.prog 12 #[pnV ⟨2, 3, .slice (some ⟨w.heap.size, 0, none⟩) 1 1, [10], 1, 4, 9, 2, 3⟩] W fun e w' => e = .returned (.int .i64 8) ∧ Below W.heap.size W w' := fun W hW => by
    have := pnodes_any ⟨2, 3, .slice (some ⟨w.heap.size, 0, none⟩) 1 1, [10], 1, 4, 9, 2, 3⟩ W hW
    rw [n1, n2, n3, n4] at this
    exact this
  clear n1 n2 n3 n4
  go_enter Try.func8, Try.ntmps8
  go_upto_region 2 with (first
    | (refine bs_own rfl rfl [10] (by simp only [List.map_toArray, List.map_cons, List.map_nil]; rfl) (isl1 _ _) rfl (by decide) ?_; intro W1 own1 b1 z1; clear z1)
    | (refine al_blk rfl rfl zeroP (zero_pn _) ?_; intro W2 eW hZ b2; clear eW)
    | (refine st_blk rfl rfl hZ rfl rfl info_pn rfl (by simp [Value.oneCell']) ?_; intro W3 hX C3))
  have hl1 : W1.heap.size ≤ W2.heap.size := b2.size
  have b13 : Below w.heap.size w W3 := ab_chg (ab_trans b1 b2) C3 (by have := b1.size; omega)
  have hv3 : Is W3 (.slice (some ⟨w.heap.size, 0, none⟩) 1 1) [10] := by
    have h1 := (own_is own1).keep b2
    exact (own_is own1).keep (ab_chg b2 C3 (Nat.le_refl _))
  clear hZ b1 b2 C3 own1 hl1
  go_upto_region 3 with (first
    | (refine ld_blk rfl rfl hX rfl _ Try.underlying24 rfl info_pn ?_)
    | (go_at_call 18; refine (HND _ hv3).mono ?_; rintro e W4 ⟨rfl, b4⟩))
  have hX4 := hX.keep b4
  have hv4 := hv3.keep b4
  have b14 := ab_trans b13 b4
  clear hX hv3 b13 b4 HND
  go_upto_region 4 with (first
    | (refine ld_blk rfl rfl hX4 rfl _ Try.underlying24 rfl info_pn ?_)
    | (go_at_call 17; refine (HRL _ hv4).mono ?_; rintro e W5 ⟨rfl, b5⟩))
  have hX5 := hX4.keep b5
  have hv5 := hv4.keep b5
  have b15 := ab_trans b14 b5
  clear hX4 hv4 b14 b5 HRL
  go_wp2_with (first
    | (refine lw_pn (p := ⟨2, 3, .slice (some ⟨w.heap.size, 0, none⟩) 1 1, [10], 1, 4, 9, 2, 3⟩) rfl rfl rfl hX5 ?_)
    | (have mk := b6; clear mk; refine lw_pn (p := ⟨2, 3, .slice (some ⟨w.heap.size, 0, none⟩) 1 1, [10], 1, 4, 9, 2, 3⟩) rfl rfl rfl (hX5.keep b6) ?_)
    | (refine valS rfl _ (eq19_nil _) ?_)
    | (go_at_call 9; refine (HCK _ hv5).mono ?_; rintro e W6 ⟨rfl, b6⟩)
    | (go_at_call 12; refine (HNS _ (hv5.keep b6)).mono ?_; rintro e W7 ⟨rfl, b7⟩))
  go_ret
  exact ⟨rfl, ab_trans b15 (ab_trans b6 b7)⟩
end Go.Proofs.Ytnooedipanhkjaa
