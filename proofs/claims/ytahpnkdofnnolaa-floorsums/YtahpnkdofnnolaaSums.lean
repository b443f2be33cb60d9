/-
  floor.Add, Neg and Less answer as the document says at every two wide numbers: estuarylaw01.FloorSums returns true for every input; no condition.
-/
import Derived.Test.YtahpnkdofnnolaaWalk4
import Derived.Test.YtahpnkdofnnolaaLess
import Derived.Test.YtahpnkdofnnolaaRegion
import Derived.Test.YtahpnkdofnnolaaWalk9
import Derived.Test.YtahpnkdofnnolaaWalk10
import Derived.Test.YtahpnkdofnnolaaWalk11
import Derived.ProofKit
import Derived.OpenShut
import Derived.ChangeOld
import Derived.Below
import Derived.Lib.SmallJoins
namespace Go.Proofs.Ytahpnkdofnnolaa.floorSums
open Go.ChangeShapes Go.WideShapes Go.ChangeAt Go.RowKit Go.Joins
set_option linter.unusedVariables false
attribute [local go_sem] ok_fold

set_option maxHeartbeats 1000000 in
theorem walk (ah : Int) (bah : -9223372036854775808 ≤ ah ∧ ah ≤ 9223372036854775807) (al : Int) (bal : 0 ≤ al ∧ al ≤ 18446744073709551615)
    (bh : Int) (bbh : -9223372036854775808 ≤ bh ∧ bh ≤ 9223372036854775807) (bl : Int) (bbl : 0 ≤ bl ∧ bl ≤ 18446744073709551615) (w : World) :
    Calls Try.prog 6 #[.agg #[.int .i64 ah, .int .u64 al], .agg #[.int .i64 bh, .int .u64 bl]] w fun e w' => e = .returned (.bool true) ∧ Below w.heap.size w w' := by
  go_enter Try.func6, Try.ntmps6
  go_wp2_with fail
  refine (alive_any _).mono ?_
  rintro e w1 ⟨rfl, hb⟩
  obtain ⟨q0, q1, r0, r1, -, -, hz⟩ := blocks2 hb
  go_wp2_with fail
  have ne := cls_some w1
  have d0 := cls_cell (W := w1) q0 (by omega)
  have d1 := cls_cell (W := w1) q1 (by omega)
  have d2 := cls_cell (W := w1) r0 (by omega)
  have d3 := cls_cell (W := w1) r1 (by omega)
  have hbw : Below w.heap.size w w1 := ab_trans (ab_alloc (ab_alloc (Below.refl _ _) _) _) hb
  clear hb q0 q1 r0 r1 hz
  refine wp_region_below (by kernel_rfl) (by kernel_rfl) ?_
  repeat (go_big_quiet_step (first
    | (go_at_call 18; exact calls_below (add_any _ _ _ _ _ bah.1 bah.2 bal.1 bal.2 bbh.1 bbh.2 bbl.1 bbl.2))
    | (go_at_call 19; exact calls_below (radd_any _ _ _ _ _ bah.1 bah.2 bal.1 bal.2 bbh.1 bbh.2 bbl.1 bbl.2))
    | (go_at_call 20; exact calls_below (neg_any _ _ _ bah.1 bah.2 bal.1 bal.2))
    | (go_at_call 21; exact calls_below (rneg_any _ _ _ bah.1 bah.2 bal.1 bal.2))
    | (go_at_call 22; exact calls_below (less_any _ _ _ _ _ bah.1 bah.2 bal.1 bal.2 bbh.1 bbh.2 bbl.1 bbl.2))
    | (go_at_call 23; exact calls_below (rless_any _ _ _ _ _ bah.1 bah.2 bal.1 bal.2 bbh.1 bbh.2 bbl.1 bbl.2))))
  refine wpQuiet_nil ?_
  rintro _ ⟨x, rfl⟩
  go_wp2_with fail
  go_ret
  exact ⟨ret_bool (by simp), ab_trans hbw x.prop⟩

theorem own : ownKnob Try.prog.godebug = none := by kernel_rfl
theorem laidOut : laidOutB Try.prog = true := by kernel_rfl

set_option maxRecDepth 100000 in
theorem lifted (os : Os) (started : os.Started) (H : Type) (enc : TypeId × Value → H) :
    ReturnsInHanded {} Try.checked os 6 .any (Rows.floorSumsSpec.pre6 enc Try.prog Try.f6 Rows.floorSumsRow.domain false) (Rows.floorSumsSpec.post enc Try.prog Try.f6 false true false false) := by
  refine returnsInHanded_of_change (C := Try.checked) own started (by kernel_rfl) Try.func6
    (ChangeSpec.witness6 (enc := enc) (C := Try.checked) false ⟨#[], #[.agg #[.int .i64 0, .int .u64 0], .agg #[.int .i64 0, .int .u64 0]], []⟩ 8 (by kernel_rfl) (by kernel_rfl) (by kernel_rfl) (by kernel_rfl)) ?_
  intro W base args ds gs before hval0 hW hcnd _
  have hval : ∀ (j : Nat) t v, Try.f6.params[j]? = some t → args[j]? = some v → Value.okWide Try.prog W .any base t v := hval0
  have hW' := hW
  obtain ⟨p, q, hA0, hV, rfl, hfz, hnd⟩ := hW
  have hA : DataW.TrodAll enc Try.prog W 0 (fun _ => true) true Try.f6.params.toList args.toList ds p := hA0
  rw [Try.params6] at hA hval
  obtain ⟨v0, vs0, d0, ds0, p0, q0, hargs, rfl, rfl, h0, r0⟩ := trodAll_cons hA
  obtain ⟨v1, vs1, d1, ds1, p1, q1, rfl, rfl, rfl, h1, r1⟩ := trodAll_cons r0
  obtain ⟨rfl, rfl, rfl⟩ := trodAll_nil r1
  obtain rfl : args = #[v0, v1] := by cases args; simp_all
  obtain ⟨rfl, rfl⟩ := trodVars_none hV
  have k0 := h0
  have lt0 : ∀ x ∈ p0, x.block < W.heap.size := by obtain ⟨m, hm⟩ := k0; exact DataW.trod_lt m _ _ _ hm
  have k1 := h1
  have lt1 : ∀ x ∈ p1, x.block < W.heap.size := by obtain ⟨m, hm⟩ := k1; exact DataW.trod_lt m _ _ _ hm
  obtain ⟨c0_0, c0_1, y0_0, y0_1, m0, rfl, rfl, rfl, hy0_0, hy0_1⟩ := open_agg2 Try.underlying34 (by kernel_rfl) (by kernel_rfl) (hval 0 34 v0 rfl rfl) h0
  obtain ⟨a0_0, e0_0, rfl, w0_0⟩ := DataW.trod_int Try.underlying3 hy0_0
  simp at e0_0; subst e0_0
  obtain ⟨a0_1, e0_1, rfl, w0_1⟩ := DataW.trod_int Try.underlying32 hy0_1
  simp at e0_1; subst e0_1
  obtain ⟨c1_0, c1_1, y1_0, y1_1, m1, rfl, rfl, rfl, hy1_0, hy1_1⟩ := open_agg2 Try.underlying34 (by kernel_rfl) (by kernel_rfl) (hval 1 34 v1 rfl rfl) h1
  obtain ⟨a1_0, e1_0, rfl, w1_0⟩ := DataW.trod_int Try.underlying3 hy1_0
  simp at e1_0; subst e1_0
  obtain ⟨a1_1, e1_1, rfl, w1_1⟩ := DataW.trod_int Try.underlying32 hy1_1
  simp at e1_1; subst e1_1
  clear hA0 hval0
  refine (walk a0_0 (bounds_i64 w0_0) a0_1 (bounds_u64 w0_1) a1_0 (bounds_i64 w1_0) a1_1 (bounds_u64 w1_1) W).mono fun e W' ⟨he, bel⟩ => ?_
  subst he
  exact ⟨_, rfl, _, _, _, [], _, [], hW', trodAll_mk1 (shut_bool Try.underlying4 _), (trodAll_cons_mk (Below.trod laidOut (by kernel_rfl) (of_decide_eq_true (by kernel_rfl)) k0 bel lt0) (trodAll_cons_mk (Below.trod laidOut (by kernel_rfl) (of_decide_eq_true (by kernel_rfl)) k1 bel lt1) trodAll_mk0)), rfl, bel.frame _, fun h => by cases h⟩

theorem over : Rows.floorSumsRow.holds Try.pinned (OpenSpec.ofChange Rows.floorSumsSpec) :=
  OpenClaim.holds_of_wide 6 Try.f6 rfl rfl rfl rfl rfl rfl rfl ⟨rfl, rfl, rfl, rfl, rfl⟩ rfl rfl rfl rfl rfl (by kernel_rfl) Try.func6 (by kernel_rfl)
    (of_decide_eq_true (by kernel_rfl)) (by unfold Func.isWrapper; first | (rw [if_pos (by decide +kernel)]; kernel_rfl) | (rw [if_neg (by decide +kernel)]; exact ⟨rfl, rfl⟩))
    (fun os started H enc _ => lifted os started H enc)

theorem proved : Rows.FloorSumsSaid := over
end Go.Proofs.Ytahpnkdofnnolaa.floorSums
namespace Go.Proofs.Ytahpnkdofnnolaa
theorem floorSums_holds : Rows.FloorSumsSaid := floorSums.proved
#print axioms floorSums_holds
end Go.Proofs.Ytahpnkdofnnolaa
