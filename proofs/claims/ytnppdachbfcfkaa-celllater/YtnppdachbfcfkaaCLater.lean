/-
  Which sample is later, and that of two unlike ones just one is: estuarylaw02.CellLater returns true for every input; no condition.
-/
import Derived.Test.YtnppdachbfcfkaaAlive
import Derived.ProofKit
import Derived.OpenShut
import Derived.ChangeOld
import Derived.Below
import Derived.Lib.SmallJoins
namespace Go.Proofs.Ytnppdachbfcfkaa.cellLater
open Go.ChangeShapes Go.WideShapes Go.ChangeAt Go.RowKit Go.Joins
set_option linter.unusedVariables false
attribute [local go_sem] eq_fold

theorem ltr_or (a0 a1 a2 a3 b0 b1 b2 b3 : Int) : (decide (a0 = b0) && (decide (a1 = b1) && (decide (a2 = b2) && decide (a3 = b3)))) = (!ltr a0 a1 a2 a3 b0 b1 b2 b3 && !ltr b0 b1 b2 b3 a0 a1 a2 a3) := by
  unfold ltr
  rw [Bool.eq_iff_iff]
  simp only [Bool.and_eq_true, Bool.not_eq_true', decide_eq_true_eq, decide_eq_false_iff_not]
  omega

set_option maxHeartbeats 400000 in
theorem walk (a0 : Int) (u0 : -9223372036854775808 ≤ a0 ∧ a0 ≤ 9223372036854775807) (a1 : Int) (u1 : -9223372036854775808 ≤ a1 ∧ a1 ≤ 9223372036854775807) (a2 : Int) (u2 : -9223372036854775808 ≤ a2 ∧ a2 ≤ 9223372036854775807) (a3 : Int) (u3 : -9223372036854775808 ≤ a3 ∧ a3 ≤ 9223372036854775807)
    (b0 : Int) (v0 : -9223372036854775808 ≤ b0 ∧ b0 ≤ 9223372036854775807) (b1 : Int) (v1 : -9223372036854775808 ≤ b1 ∧ b1 ≤ 9223372036854775807) (b2 : Int) (v2 : -9223372036854775808 ≤ b2 ∧ b2 ≤ 9223372036854775807) (b3 : Int) (v3 : -9223372036854775808 ≤ b3 ∧ b3 ≤ 9223372036854775807) (w : World) :
    Calls Try.prog 6 #[.agg #[.int .i64 a0, .int .i64 a1, .int .i64 a2, .int .i64 a3], .agg #[.int .i64 b0, .int .i64 b1, .int .i64 b2, .int .i64 b3]] w fun e w' => e = .returned (.bool true) ∧ Below w.heap.size w w' := by
  have HL := ltr_or a0 a1 a2 a3 b0 b1 b2 b3
  go_enter Try.func6, Try.ntmps6
  go_upto_region 3 with (go_at_call 9; refine (alive2_any _).mono ?_; rintro e W1 ⟨rfl, hb⟩)
  have hA : Blk W1 w.heap.size #[.int .i64 a0, .int .i64 a1, .int .i64 a2, .int .i64 a3] 28 := ((Blk.new w _ _).alloc _).keep hb
  have hB : Blk W1 (w.heap.size + 1) #[.int .i64 b0, .int .i64 b1, .int .i64 b2, .int .i64 b3] 28 := by
    refine Blk.keep ?_ hb; simpa using Blk.new (w.alloc _) #[.int .i64 b0, .int .i64 b1, .int .i64 b2, .int .i64 b3] 28
  have hw : Below w.heap.size w W1 := ab_trans (ab_alloc (ab_alloc (Below.refl _ _) _) _) hb
  clear hb
  have p0 := cls_cell (hA.at (i := 0) rfl) hA.lt
  have p1 := cls_cell (hA.at (i := 1) rfl) hA.lt
  have p2 := cls_cell (hA.at (i := 2) rfl) hA.lt
  have p3 := cls_cell (hA.at (i := 3) rfl) hA.lt
  have q0 := cls_cell (hB.at (i := 0) rfl) hB.lt
  have q1 := cls_cell (hB.at (i := 1) rfl) hB.lt
  have q2 := cls_cell (hB.at (i := 2) rfl) hB.lt
  have q3 := cls_cell (hB.at (i := 3) rfl) hB.lt
  refine wp_region_below (by kernel_rfl) (by kernel_rfl) ?_
  have HZ := cls_some W1
  cases h1 : ltr a0 a1 a2 a3 b0 b1 b2 b3 <;> cases h2 : ltr b0 b1 b2 b3 a0 a1 a2 a3
  all_goals
    rw [h1, h2] at HL
    simp only [Bool.not_false, Bool.not_true, Bool.and_true, Bool.and_false] at HL
    repeat (go_big_quiet_step (first
      | (go_at_call 15; exact calls_below (later_any _ _ _ _ _ _ _ _ _))
      | (go_at_call 16; exact calls_below (rlater_any _ _ _ _ _ _ _ _ _))))
  all_goals
    refine wpQuiet_nil ?_
    rintro _ ⟨x, rfl⟩
    go_wp2_with fail
    go_ret
    exact ⟨rfl, ab_trans hw x.prop⟩

theorem own : ownKnob Try.prog.godebug = none := by kernel_rfl
theorem laidOut : laidOutB Try.prog = true := by kernel_rfl

set_option maxRecDepth 100000 in
theorem lifted (os : Os) (started : os.Started) (H : Type) (enc : TypeId × Value → H) :
    ReturnsInHanded {} Try.checked os 6 .any (Rows.cellLaterSpec.pre6 enc Try.prog Try.f6 Rows.cellLaterRow.domain false) (Rows.cellLaterSpec.post enc Try.prog Try.f6 false true false false) := by
  refine returnsInHanded_of_change (C := Try.checked) own started (by kernel_rfl) Try.func6
    (ChangeSpec.witness6 (enc := enc) (C := Try.checked) false ⟨#[], #[.agg #[.int .i64 0, .int .i64 0, .int .i64 0, .int .i64 0], .agg #[.int .i64 0, .int .i64 0, .int .i64 0, .int .i64 0]], []⟩ 8 (by kernel_rfl) (by kernel_rfl) (by kernel_rfl) (by kernel_rfl)) ?_
  intro W base args ds gs before hval0 hW hcnd _
  have hval : ∀ (j : Nat) t v, Try.f6.params[j]? = some t → args[j]? = some v → Value.okWide Try.prog W .any base t v := hval0
  have hW' := hW
  obtain ⟨p, q, hA0, hV, rfl, hfz, hnd⟩ := hW
  have hA : DataW.TrodAll enc Try.prog W 0 (fun _ => true) true Try.f6.params.toList args.toList ds p := hA0
  rw [Try.params6] at hA hval
  obtain ⟨v0, vs0, d0, ds0, p0, q0, hargs, rfl, rfl, h0, r0⟩ := trodAll_cons hA
  obtain ⟨v1, vs1, d1, ds1, p1, q1, rfl, rfl, rfl, h1, r1⟩ := trodAll_cons r0
  obtain ⟨rfl, rfl, rfl⟩ := trodAll_nil r1
  obtain rfl : args = #[v0, v1] := by cases args; simp_all
  obtain ⟨rfl, rfl⟩ := trodVars_none hV
  have k0 := h0
  have lt0 : ∀ x ∈ p0, x.block < W.heap.size := by obtain ⟨m, hm⟩ := k0; exact DataW.trod_lt m _ _ _ hm
  have k1 := h1
  have lt1 : ∀ x ∈ p1, x.block < W.heap.size := by obtain ⟨m, hm⟩ := k1; exact DataW.trod_lt m _ _ _ hm
  obtain ⟨c0_0, c0_1, c0_2, c0_3, y0_0, y0_1, y0_2, y0_3, m0, rfl, rfl, rfl, hy0_0, hy0_1, hy0_2, hy0_3⟩ := open_agg4 Try.underlying28 (by kernel_rfl) (by kernel_rfl) (hval 0 28 v0 rfl rfl) h0
  obtain ⟨a0_0, e0_0, rfl, w0_0⟩ := DataW.trod_int Try.underlying3 hy0_0
  simp at e0_0; subst e0_0
  obtain ⟨a0_1, e0_1, rfl, w0_1⟩ := DataW.trod_int Try.underlying3 hy0_1
  simp at e0_1; subst e0_1
  obtain ⟨a0_2, e0_2, rfl, w0_2⟩ := DataW.trod_int Try.underlying3 hy0_2
  simp at e0_2; subst e0_2
  obtain ⟨a0_3, e0_3, rfl, w0_3⟩ := DataW.trod_int Try.underlying3 hy0_3
  simp at e0_3; subst e0_3
  obtain ⟨c1_0, c1_1, c1_2, c1_3, y1_0, y1_1, y1_2, y1_3, m1, rfl, rfl, rfl, hy1_0, hy1_1, hy1_2, hy1_3⟩ := open_agg4 Try.underlying28 (by kernel_rfl) (by kernel_rfl) (hval 1 28 v1 rfl rfl) h1
  obtain ⟨a1_0, e1_0, rfl, w1_0⟩ := DataW.trod_int Try.underlying3 hy1_0
  simp at e1_0; subst e1_0
  obtain ⟨a1_1, e1_1, rfl, w1_1⟩ := DataW.trod_int Try.underlying3 hy1_1
  simp at e1_1; subst e1_1
  obtain ⟨a1_2, e1_2, rfl, w1_2⟩ := DataW.trod_int Try.underlying3 hy1_2
  simp at e1_2; subst e1_2
  obtain ⟨a1_3, e1_3, rfl, w1_3⟩ := DataW.trod_int Try.underlying3 hy1_3
  simp at e1_3; subst e1_3
  clear hA0 hval0
  refine (walk a0_0 (bounds_i64 w0_0) a0_1 (bounds_i64 w0_1) a0_2 (bounds_i64 w0_2) a0_3 (bounds_i64 w0_3) a1_0 (bounds_i64 w1_0) a1_1 (bounds_i64 w1_1) a1_2 (bounds_i64 w1_2) a1_3 (bounds_i64 w1_3) W).mono fun e W' ⟨he, bel⟩ => ?_
  subst he
  exact ⟨_, rfl, _, _, _, [], _, [], hW', trodAll_mk1 (shut_bool Try.underlying4 _), (trodAll_cons_mk (Below.trod laidOut (by kernel_rfl) (of_decide_eq_true (by kernel_rfl)) k0 bel lt0) (trodAll_cons_mk (Below.trod laidOut (by kernel_rfl) (of_decide_eq_true (by kernel_rfl)) k1 bel lt1) trodAll_mk0)), rfl, bel.frame _, fun h => by cases h⟩

theorem over : Rows.cellLaterRow.holds Try.pinned (OpenSpec.ofChange Rows.cellLaterSpec) :=
  OpenClaim.holds_of_wide 6 Try.f6 rfl rfl rfl rfl rfl rfl rfl ⟨rfl, rfl, rfl, rfl, rfl⟩ rfl rfl rfl rfl rfl (by kernel_rfl) Try.func6 (by kernel_rfl)
    (of_decide_eq_true (by kernel_rfl)) (by unfold Func.isWrapper; first | (rw [if_pos (by decide +kernel)]; kernel_rfl) | (rw [if_neg (by decide +kernel)]; exact ⟨rfl, rfl⟩))
    (fun os started H enc _ => lifted os started H enc)

theorem proved : Rows.CellLaterSaid := over
end Go.Proofs.Ytnppdachbfcfkaa.cellLater
namespace Go.Proofs.Ytnppdachbfcfkaa
theorem cellLater_holds : Rows.CellLaterSaid := cellLater.proved
#print axioms cellLater_holds
end Go.Proofs.Ytnppdachbfcfkaa
