/-
  What a round that is none answers: estuarylaw11.RoundNone returns true for every input; no condition.
-/
import Derived.Test.YtpcejajidhfmpaaRuF
import Derived.Test.YtpcejajidhfmpaaFlat
import Derived.ProofKit
import Derived.OpenShut
import Derived.ChangeOld
import Derived.Below
import Derived.Lib.SmallJoins
namespace Go.Proofs.Ytpcejajidhfmpaa.roundNone
open Go.ChangeShapes Go.WideShapes Go.ChangeAt Go.RowKit Go.Joins
set_option linter.unusedVariables false
set_option maxRecDepth 100000

theorem e00 (w : World) : (binOp .eql 55 .nilIface .nilIface).run Try.prog w = .ok (.bool true) w := by kernel_rfl
set_option maxHeartbeats 2000000 in
theorem walk (k : Int) (hk : -9223372036854775808 ≤ k ∧ k ≤ 9223372036854775807) (n : Int) (hn : -9223372036854775808 ≤ n ∧ n ≤ 9223372036854775807) (nd : Int) (hnd : -9223372036854775808 ≤ nd ∧ nd ≤ 9223372036854775807) (lf : Int) (hlf : -9223372036854775808 ≤ lf ∧ lf ≤ 9223372036854775807) (w : World) :
    Calls Try.prog 6 #[.int .i64 k, .agg #[.int .i64 n, .int .i64 nd, .int .i64 lf]] w fun e w' => e = .returned (.bool true) ∧ Below w.heap.size w w' := by
  go_enter Try.func6, Try.ntmps6
  go_upto_region 1 with fail
  obtain ⟨A, hAe, hX, hw⟩ := blk1 w (bC ⟨n, nd, lf⟩) 23
  rw [show w.alloc (.cells _ 23) = A from hAe]
  clear hAe
  go_upto_region 3 with (go_at_call 9; refine (alive11_any _).mono ?_; rintro e W1 ⟨rfl, b1⟩)
  have hX1 := hX.keep b1
  have hw1 := ab_trans hw b1
  clear hX hw b1
  obtain ⟨x0, x1, x2⟩ := cells3 hX1
  have hbv := Below.refl W1.heap.size W1
  go_upto_region 5 with (go_at_call 17; refine (rresult_nil _).mono ?_; rintro e Z ⟨rfl, hZ⟩; subst Z)
  have E1 := e00
  have E2 : ∀ w, _ := eqBt zB zB
  have E3 : eqB zB zB = true := by decide
  rw [E3] at E2
  go_wp2_with fail
  refine (promise_nil k ⟨n, nd, lf⟩ zB zB none 0 0 _).mono ?_
  rintro e W2 ⟨rfl, b2⟩
  have hbv := b2
  go_wp2_with fail
  refine (accepted_nil k ⟨n, nd, lf⟩ _).mono ?_
  rintro e W3 ⟨rfl, b3⟩
  have hbv := ab_trans hbv b3
  go_wp2_with fail
  refine (refused_nil k zB ⟨n, nd, lf⟩ _).mono ?_
  rintro e W4 ⟨rfl, b4⟩
  have hbv := ab_trans hbv b4
  go_wp2_with fail
  refine (rstage_nil _).mono ?_
  rintro e Z ⟨rfl, hZ⟩
  subst Z
  go_wp2_with fail
  refine (rballot_nil _).mono ?_
  rintro e W5 ⟨rfl, b5⟩
  have hbv := ab_trans hbv b5
  go_wp2_with fail
  refine (rvalue_nil _).mono ?_
  rintro e Z ⟨rfl, hZ⟩
  subst Z
  go_wp2_with fail
  refine (rmet_nil _).mono ?_
  rintro e W6 ⟨rfl, b6⟩
  have hbv := ab_trans hbv b6
  go_wp2_with fail
  go_ret
  exact ⟨rfl, ab_trans hw1 hbv⟩
theorem own : ownKnob Try.prog.godebug = none := by kernel_rfl
theorem laidOut : laidOutB Try.prog = true := by kernel_rfl

set_option maxRecDepth 100000 in
theorem lifted (os : Os) (started : os.Started) (H : Type) (enc : TypeId × Value → H) :
    ReturnsInHanded {} Try.checked os 6 .any (Rows.roundNoneSpec.pre6 enc Try.prog Try.f6 Rows.roundNoneRow.domain false) (Rows.roundNoneSpec.post enc Try.prog Try.f6 false true false false) := by
  refine returnsInHanded_of_change (C := Try.checked) own started (by kernel_rfl) Try.func6
    (ChangeSpec.witness6 (enc := enc) (C := Try.checked) false ⟨#[], #[.int .i64 0, .agg #[.int .i64 0, .int .i64 0, .int .i64 0]], []⟩ 8 (by kernel_rfl) (by kernel_rfl) (by kernel_rfl) (by kernel_rfl)) ?_
  intro W base args ds gs before hval0 hW hcnd _
  have hval : ∀ (j : Nat) t v, Try.f6.params[j]? = some t → args[j]? = some v → Value.okWide Try.prog W .any base t v := hval0
  have hW' := hW
  obtain ⟨p, q, hA0, hV, rfl, hfz, hnd⟩ := hW
  have hA : DataW.TrodAll enc Try.prog W 0 (fun _ => true) true Try.f6.params.toList args.toList ds p := hA0
  rw [Try.params6] at hA hval
  obtain ⟨v0, vs0, d0, ds0, p0, q0, hargs, rfl, rfl, h0, r0⟩ := trodAll_cons hA
  obtain ⟨v1, vs1, d1, ds1, p1, q1, rfl, rfl, rfl, h1, r1⟩ := trodAll_cons r0
  obtain ⟨rfl, rfl, rfl⟩ := trodAll_nil r1
  obtain rfl : args = #[v0, v1] := by cases args; simp_all
  obtain ⟨rfl, rfl⟩ := trodVars_none hV
  have k0 := h0
  have lt0 : ∀ x ∈ p0, x.block < W.heap.size := by obtain ⟨m, hm⟩ := k0; exact DataW.trod_lt m _ _ _ hm
  have k1 := h1
  have lt1 : ∀ x ∈ p1, x.block < W.heap.size := by obtain ⟨m, hm⟩ := k1; exact DataW.trod_lt m _ _ _ hm
  obtain ⟨a0, rfl, rfl, rfl, w0⟩ := open_int Try.underlying3 (hval 0 3 v0 rfl rfl) h0
  obtain ⟨c1_0, c1_1, c1_2, y1_0, y1_1, y1_2, m1, rfl, rfl, rfl, hy1_0, hy1_1, hy1_2⟩ := open_agg3 Try.underlying23 (by kernel_rfl) (by kernel_rfl) (hval 1 23 v1 rfl rfl) h1
  obtain ⟨a1_0, e1_0, rfl, w1_0⟩ := DataW.trod_int Try.underlying3 hy1_0
  simp at e1_0; subst e1_0
  obtain ⟨a1_1, e1_1, rfl, w1_1⟩ := DataW.trod_int Try.underlying3 hy1_1
  simp at e1_1; subst e1_1
  obtain ⟨a1_2, e1_2, rfl, w1_2⟩ := DataW.trod_int Try.underlying3 hy1_2
  simp at e1_2; subst e1_2
  clear hA0 hval0
  refine (walk a0 (bounds_i64 w0) a1_0 (bounds_i64 w1_0) a1_1 (bounds_i64 w1_1) a1_2 (bounds_i64 w1_2) W).mono fun e W' ⟨he, bel⟩ => ?_
  subst he
  exact ⟨_, rfl, _, _, _, [], _, [], hW', trodAll_mk1 (shut_bool Try.underlying4 _), (trodAll_cons_mk (Below.trod laidOut (by kernel_rfl) (of_decide_eq_true (by kernel_rfl)) k0 bel lt0) (trodAll_cons_mk (Below.trod laidOut (by kernel_rfl) (of_decide_eq_true (by kernel_rfl)) k1 bel lt1) trodAll_mk0)), rfl, bel.frame _, fun h => by cases h⟩

theorem over : Rows.roundNoneRow.holds Try.pinned (OpenSpec.ofChange Rows.roundNoneSpec) :=
  OpenClaim.holds_of_wide 6 Try.f6 rfl rfl rfl rfl rfl rfl rfl ⟨rfl, rfl, rfl, rfl, rfl⟩ rfl rfl rfl rfl rfl (by kernel_rfl) Try.func6 (by kernel_rfl)
    (of_decide_eq_true (by kernel_rfl)) (by unfold Func.isWrapper; first | (rw [if_pos (by decide +kernel)]; kernel_rfl) | (rw [if_neg (by decide +kernel)]; exact ⟨rfl, rfl⟩))
    (fun os started H enc _ => lifted os started H enc)

theorem proved : Rows.RoundNoneSaid := over
end Go.Proofs.Ytpcejajidhfmpaa.roundNone
namespace Go.Proofs.Ytpcejajidhfmpaa
theorem roundNone_holds : Rows.RoundNoneSaid := roundNone.proved
#print axioms roundNone_holds
end Go.Proofs.Ytpcejajidhfmpaa
