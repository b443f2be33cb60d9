/-
  spring: Emit, Mark and Handle where there is no spring, Open where there is no tape.
-/
import Derived.Test.YteffpgodookebaaGreatPk64
import Derived.Test.YteffpgodookebaaGreatPk59
namespace Go.Proofs.YteffpgodookebaaGreat
open Go.RowKit
set_option linter.unusedVariables false
set_option maxRecDepth 100000

set_option maxHeartbeats 1000000 in
theorem spemit_nil (t y v : Int) (w : World) : Calls Tryz.prog 15 #[.pointer none, .int .i64 t, .int .i64 y, .int .i64 v] w fun e w' => e = .returned (.tuple #[opV zOp, Err 5]) ∧ Below w.heap.size w w' := by
  obtain ⟨A, hE, hB, hw⟩ := blk1 w (opA zOp) 49
  unfold opA zOp at hE
  go_enter Tryz.func15, Tryz.ntmps15
  go_wp2_with (refine st_op rfl rfl (k1 := zOp) hB rfl rfl ?_; intro W5 hB5 C5)
  exact bodyPost_ret (results_c2 rfl _ _ _ 49 _ (0, 0) _ (Err 5) rfl rfl hB5 Tryz.underlying49 rfl (info_op5 zOp)) rfl ⟨rfl, ab_chg hw C5 (Nat.le_refl _)⟩
set_option maxHeartbeats 1000000 in
theorem spmark_nil (t : Int) (w : World) : Calls Tryz.prog 17 #[.pointer none, .int .i64 t] w fun e w' => e = .returned (.tuple #[opV zOp, Err 5]) ∧ Below w.heap.size w w' := by
  obtain ⟨A, hE, hB, hw⟩ := blk1 w (opA zOp) 49
  unfold opA zOp at hE
  go_enter Tryz.func17, Tryz.ntmps17
  go_wp2_with (refine st_op rfl rfl (k1 := zOp) hB rfl rfl ?_; intro W5 hB5 C5)
  exact bodyPost_ret (results_c2 rfl _ _ _ 49 _ (0, 0) _ (Err 5) rfl rfl hB5 Tryz.underlying49 rfl (info_op5 zOp)) rfl ⟨rfl, ab_chg hw C5 (Nat.le_refl _)⟩
set_option maxHeartbeats 1000000 in
theorem sphandle_nil (k f t : Int) (q1 q2 q3 : Option Addr) (n1 n2 n3 c1 c2 c3 : Nat) (w : World) :
    Calls Tryz.prog 20 #[.pointer none, .agg #[.int .i64 k, .int .i64 f, .int .i64 t, .slice q1 n1 c1, .slice q2 n2 c2, .slice q3 n3 c3]] w fun e w' => e = .returned (.slice none 0 0) ∧ Below w.heap.size w w' := by
  obtain ⟨A, hAe, hA, vA⟩ := blk1 w #[.int .i64 k, .int .i64 f, .int .i64 t, .slice q1 n1 c1, .slice q2 n2 c2, .slice q3 n3 c3] 45
  go_enter Tryz.func20, Tryz.ntmps20
  go_upto_region 1 with fail
  clear hAe
  have HZ := cls_some A
  refine wp_region_below (by kernel_rfl) (by kernel_rfl) ?_
  repeat (go_big_quiet_step (fail))
  refine wpQuiet_nil ?_
  rintro _ ⟨y, rfl⟩
  obtain ⟨V4, b4⟩ := y
  dsimp only
  clear HZ
  go_wp2_with fail
  go_ret
  exact ⟨rfl, ab_trans vA b4⟩
theorem spne5 (w : World) : (binOp .neq 34 (Err 5) .nilIface).run Tryz.prog w = .ok (.bool true) w := by kernel_rfl
set_option maxHeartbeats 1000000 in
theorem spopen_nil (node chunk : Int) (vl : Value) (res : List Int) (sh hd : Int) (w : World) (h0 : 0 ≤ node) (h9 : node ≤ 999) (hc1 : 1 ≤ chunk) (hc2 : chunk ≤ 16)
    (hv : Is w vl res) (hr : ∀ r ∈ res, r ≤ 9223372036854775807) (hg : goodF res sh hd = true) :
    Calls Tryz.prog 12 #[.int .i64 node, vl, .int .i64 sh, .int .i64 hd, .int .i64 chunk, .pointer none] w fun e w' => e = .returned (.tuple #[.pointer none, Err 5]) ∧ Below w.heap.size w w' := by
  have hn := snew_ok vl res sh hd w hv hr hg
  have w1 : decide (0 ≤ node ∧ node ≤ 999) = true := decide_eq_true ⟨h0, h9⟩
  have w2 : decide (1 ≤ chunk ∧ chunk ≤ 16) = true := decide_eq_true ⟨hc1, hc2⟩
  obtain ⟨ql, cl, el⟩ := hv.form
  subst el
  have e2 := spn0
  have e5 := spne5
  clear hv hr hg
  go_enter Tryz.func12, Tryz.ntmps12
  go_upto_region 4 with (first
    | (go_at_call 43; refine hn.mono ?_; rintro e W1 ⟨sb, vr, vh, vc, rfl, h1, b1⟩)
    | (go_at_call 44; refine (spwithin_any _ _ _ _).mono ?_; rintro e W1' ⟨rfl, hW1'⟩; subst W1'; first | rw [w1] | rw [w2]))
  clear hn w1 w2
  go_wp2_with (go_at_call 45; refine (dopen_nil _).mono ?_; rintro e X ⟨rfl, hX⟩; subst X)
  go_ret2
  exact ⟨rfl, b1⟩
end Go.Proofs.YteffpgodookebaaGreat
