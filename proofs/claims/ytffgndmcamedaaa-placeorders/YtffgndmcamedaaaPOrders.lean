/-
  Places are ordered by window, then by key, as the document says; what lies between two of them, which one is next and which is the least: estuarylaw03.PlaceOrders returns true for every input; no condition.
-/
import Derived.Test.YtffgndmcamedaaaAlive3
import Derived.ProofKit
import Derived.OpenShut
import Derived.ChangeOld
import Derived.Below
import Derived.Lib.SmallJoins
namespace Go.Proofs.Ytffgndmcamedaaa.placeOrders
open Go.ChangeShapes Go.WideShapes Go.ChangeAt Go.RowKit Go.Joins
set_option linter.unusedVariables false

set_option maxRecDepth 100000 in
set_option maxHeartbeats 1000000 in
theorem walk (p0 : Int) (u0 : -9223372036854775808 ≤ p0 ∧ p0 ≤ 9223372036854775807) (p1 : Int) (u1 : -9223372036854775808 ≤ p1 ∧ p1 ≤ 9223372036854775807)
    (a0 : Int) (v0 : -9223372036854775808 ≤ a0 ∧ a0 ≤ 9223372036854775807) (a1 : Int) (v1 : -9223372036854775808 ≤ a1 ∧ a1 ≤ 9223372036854775807)
    (b0 : Int) (w0 : -9223372036854775808 ≤ b0 ∧ b0 ≤ 9223372036854775807) (b1 : Int) (w1 : -9223372036854775808 ≤ b1 ∧ b1 ≤ 9223372036854775807) (w : World) :
    Calls Try.prog 3 #[.agg #[.int .i64 p0, .int .i64 p1], .agg #[.int .i64 a0, .int .i64 a1], .agg #[.int .i64 b0, .int .i64 b1]] w fun e w' => e = .returned (.bool true) ∧ Below w.heap.size w w' := by
  go_enter Try.func3, Try.ntmps3
  go_upto_region 1 with fail
  obtain ⟨A, hAe, hP, hA, hB, hw⟩ := blk3 w #[.int .i64 p0, .int .i64 p1] #[.int .i64 a0, .int .i64 a1] #[.int .i64 b0, .int .i64 b1] 23 23 23
  rw [hAe]
  clear hAe
  go_upto_region 3 with (go_at_call 9; refine (alive3_any _).mono ?_; rintro e W1 ⟨rfl, hb⟩)
  have hP1 := hP.keep hb
  have hA1 := hA.keep hb
  have hB1 := hB.keep hb
  have hw1 := ab_trans hw hb
  clear hP hA hB hw hb
  obtain ⟨c0, c1⟩ := hP1.two
  go_upto_region 4 with (go_at_call 10; refine (after_any p0 p1 _ u0.1 u0.2 u1.1 u1.2).mono ?_; rintro e W2 ⟨rfl, hb⟩)
  obtain ⟨W3, hE, hN, hb3⟩ := blk1 W2 #[.int .i64 (afW p0 p1), .int .i64 (afK p0 p1)] 23
  rw [hE]
  have hb13 := ab_trans hb hb3
  have hP3 := hP1.keep hb13
  have hA3 := hA1.keep hb13
  have hB3 := hB1.keep hb13
  have hw3 := ab_trans hw1 hb13
  clear hE hb hb3 hb13 hP1 hA1 hB1 hw1 c0 c1
  generalize W2.heap.size = N at *
  obtain ⟨c0, c1⟩ := hP3.two
  go_upto_region 5 with (go_at_call 11; refine (rafter_any p0 p1 _ u0.1 u0.2 u1.1 u1.2).mono ?_; rintro e W4 ⟨rfl, hb⟩)
  obtain ⟨W5, hE, hM, hb5⟩ := blk1 W4 #[.int .i64 (afW p0 p1), .int .i64 (afK p0 p1)] 23
  rw [hE]
  have hb35 := ab_trans hb hb5
  have hP5 := hP3.keep hb35
  have hA5 := hA3.keep hb35
  have hB5 := hB3.keep hb35
  have hN5 := hN.keep hb35
  have hw5 := ab_trans hw3 hb35
  clear hE hb hb5 hb35 hP3 hA3 hB3 hw3 c0 c1 hN
  generalize W4.heap.size = M at *
  have x0 := cls_cell hP5.two.1 hP5.lt
  have x1 := cls_cell hP5.two.2 hP5.lt
  have x2 := cls_cell hA5.two.1 hA5.lt
  have x3 := cls_cell hA5.two.2 hA5.lt
  have x4 := cls_cell hB5.two.1 hB5.lt
  have x5 := cls_cell hB5.two.2 hB5.lt
  have x6 := cls_cell hN5.two.1 hN5.lt
  have x7 := cls_cell hN5.two.2 hN5.lt
  have x8 := cls_cell hM.two.1 hM.lt
  have x9 := cls_cell hM.two.2 hM.lt
  clear hP5 hA5 hB5 hN5 hM
  generalize afW p0 p1 = n0 at *
  generalize afK p0 p1 = n1 at *
  generalize afB p0 p1 = n2 at *
  refine wp_region_below (by kernel_rfl) (by kernel_rfl) ?_
  have HZ := cls_some W5
  have HW : pw p0 p1 a0 a1 b0 b1 = (!pl p0 p1 a0 a1 && pl p0 p1 b0 b1) := rfl
  cases h1 : pl a0 a1 b0 b1 <;> cases h2 : pl p0 p1 a0 a1 <;> cases h3 : pl p0 p1 b0 b1
  all_goals
    rw [h2, h3] at HW
    simp only [Bool.not_false, Bool.not_true, Bool.and_true, Bool.and_false] at HW
    repeat (go_big_quiet_step (first
      | (go_at_call 12; exact calls_below (pless_any _ _ _ _ _))
      | (go_at_call 13; exact calls_below (rpless_any _ _ _ _ _))
      | (go_at_call 14; exact calls_below (within_any _ _ _ _ _ _ _))
      | (go_at_call 15; exact calls_below (least_any _))
      | (go_at_call 16; exact calls_below (rleast_any _))))
  all_goals
    refine wpQuiet_nil ?_
    rintro _ ⟨x, rfl⟩
    go_wp2_with fail
    go_ret
    exact ⟨rfl, ab_trans hw5 x.prop⟩

theorem own : ownKnob Try.prog.godebug = none := by kernel_rfl
theorem laidOut : laidOutB Try.prog = true := by kernel_rfl

set_option maxRecDepth 100000 in
theorem lifted (os : Os) (started : os.Started) (H : Type) (enc : TypeId × Value → H) :
    ReturnsInHanded {} Try.checked os 3 .any (Rows.placeOrdersSpec.pre6 enc Try.prog Try.f3 Rows.placeOrdersRow.domain false) (Rows.placeOrdersSpec.post enc Try.prog Try.f3 false true false false) := by
  refine returnsInHanded_of_change (C := Try.checked) own started (by kernel_rfl) Try.func3
    (ChangeSpec.witness6 (enc := enc) (C := Try.checked) false ⟨#[], #[.agg #[.int .i64 0, .int .i64 0], .agg #[.int .i64 0, .int .i64 0], .agg #[.int .i64 0, .int .i64 0]], []⟩ 8 (by kernel_rfl) (by kernel_rfl) (by kernel_rfl) (by kernel_rfl)) ?_
  intro W base args ds gs before hval0 hW hcnd _
  have hval : ∀ (j : Nat) t v, Try.f3.params[j]? = some t → args[j]? = some v → Value.okWide Try.prog W .any base t v := hval0
  have hW' := hW
  obtain ⟨p, q, hA0, hV, rfl, hfz, hnd⟩ := hW
  have hA : DataW.TrodAll enc Try.prog W 0 (fun _ => true) true Try.f3.params.toList args.toList ds p := hA0
  rw [Try.params3] at hA hval
  obtain ⟨v0, vs0, d0, ds0, p0, q0, hargs, rfl, rfl, h0, r0⟩ := trodAll_cons hA
  obtain ⟨v1, vs1, d1, ds1, p1, q1, rfl, rfl, rfl, h1, r1⟩ := trodAll_cons r0
  obtain ⟨v2, vs2, d2, ds2, p2, q2, rfl, rfl, rfl, h2, r2⟩ := trodAll_cons r1
  obtain ⟨rfl, rfl, rfl⟩ := trodAll_nil r2
  obtain rfl : args = #[v0, v1, v2] := by cases args; simp_all
  obtain ⟨rfl, rfl⟩ := trodVars_none hV
  have k0 := h0
  have lt0 : ∀ x ∈ p0, x.block < W.heap.size := by obtain ⟨m, hm⟩ := k0; exact DataW.trod_lt m _ _ _ hm
  have k1 := h1
  have lt1 : ∀ x ∈ p1, x.block < W.heap.size := by obtain ⟨m, hm⟩ := k1; exact DataW.trod_lt m _ _ _ hm
  have k2 := h2
  have lt2 : ∀ x ∈ p2, x.block < W.heap.size := by obtain ⟨m, hm⟩ := k2; exact DataW.trod_lt m _ _ _ hm
  obtain ⟨c0_0, c0_1, y0_0, y0_1, m0, rfl, rfl, rfl, hy0_0, hy0_1⟩ := open_agg2 Try.underlying23 (by kernel_rfl) (by kernel_rfl) (hval 0 23 v0 rfl rfl) h0
  obtain ⟨a0_0, e0_0, rfl, w0_0⟩ := DataW.trod_int Try.underlying3 hy0_0
  simp at e0_0; subst e0_0
  obtain ⟨a0_1, e0_1, rfl, w0_1⟩ := DataW.trod_int Try.underlying3 hy0_1
  simp at e0_1; subst e0_1
  obtain ⟨c1_0, c1_1, y1_0, y1_1, m1, rfl, rfl, rfl, hy1_0, hy1_1⟩ := open_agg2 Try.underlying23 (by kernel_rfl) (by kernel_rfl) (hval 1 23 v1 rfl rfl) h1
  obtain ⟨a1_0, e1_0, rfl, w1_0⟩ := DataW.trod_int Try.underlying3 hy1_0
  simp at e1_0; subst e1_0
  obtain ⟨a1_1, e1_1, rfl, w1_1⟩ := DataW.trod_int Try.underlying3 hy1_1
  simp at e1_1; subst e1_1
  obtain ⟨c2_0, c2_1, y2_0, y2_1, m2, rfl, rfl, rfl, hy2_0, hy2_1⟩ := open_agg2 Try.underlying23 (by kernel_rfl) (by kernel_rfl) (hval 2 23 v2 rfl rfl) h2
  obtain ⟨a2_0, e2_0, rfl, w2_0⟩ := DataW.trod_int Try.underlying3 hy2_0
  simp at e2_0; subst e2_0
  obtain ⟨a2_1, e2_1, rfl, w2_1⟩ := DataW.trod_int Try.underlying3 hy2_1
  simp at e2_1; subst e2_1
  clear hA0 hval0
  refine (walk a0_0 (bounds_i64 w0_0) a0_1 (bounds_i64 w0_1) a1_0 (bounds_i64 w1_0) a1_1 (bounds_i64 w1_1) a2_0 (bounds_i64 w2_0) a2_1 (bounds_i64 w2_1) W).mono fun e W' ⟨he, bel⟩ => ?_
  subst he
  exact ⟨_, rfl, _, _, _, [], _, [], hW', trodAll_mk1 (shut_bool Try.underlying4 _), (trodAll_cons_mk (Below.trod laidOut (by kernel_rfl) (of_decide_eq_true (by kernel_rfl)) k0 bel lt0) (trodAll_cons_mk (Below.trod laidOut (by kernel_rfl) (of_decide_eq_true (by kernel_rfl)) k1 bel lt1) (trodAll_cons_mk (Below.trod laidOut (by kernel_rfl) (of_decide_eq_true (by kernel_rfl)) k2 bel lt2) trodAll_mk0))), rfl, bel.frame _, fun h => by cases h⟩

theorem over : Rows.placeOrdersRow.holds Try.pinned (OpenSpec.ofChange Rows.placeOrdersSpec) :=
  OpenClaim.holds_of_wide 3 Try.f3 rfl rfl rfl rfl rfl rfl rfl ⟨rfl, rfl, rfl, rfl, rfl⟩ rfl rfl rfl rfl rfl (by kernel_rfl) Try.func3 (by kernel_rfl)
    (of_decide_eq_true (by kernel_rfl)) (by unfold Func.isWrapper; first | (rw [if_pos (by decide +kernel)]; kernel_rfl) | (rw [if_neg (by decide +kernel)]; exact ⟨rfl, rfl⟩))
    (fun os started H enc _ => lifted os started H enc)

theorem proved : Rows.PlaceOrdersSaid := over
end Go.Proofs.Ytffgndmcamedaaa.placeOrders
namespace Go.Proofs.Ytffgndmcamedaaa
theorem placeOrders_holds : Rows.PlaceOrdersSaid := placeOrders.proved
#print axioms placeOrders_holds
end Go.Proofs.Ytffgndmcamedaaa
