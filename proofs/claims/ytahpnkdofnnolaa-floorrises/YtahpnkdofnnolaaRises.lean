/-
  Each time is its window's beginning and what is left, and windows rise with times: estuarylaw01.FloorRises returns true for every input; no condition.
-/
import Derived.Test.YtahpnkdofnnolaaWalk5
import Derived.ProofKit
import Derived.OpenShut
import Derived.ChangeOld
import Derived.Below
import Derived.Lib.SmallJoins
namespace Go.Proofs.Ytahpnkdofnnolaa.floorRises
open Go.ChangeShapes Go.WideShapes Go.ChangeAt Go.RowKit Go.Joins
set_option linter.unusedVariables false

set_option maxHeartbeats 400000 in
theorem rises_no (t u r k : Int) (w : World) (bt : -9223372036854775808 ≤ t ∧ t ≤ 9223372036854775807) (br : -9223372036854775808 ≤ r ∧ r ≤ 9223372036854775807) (hr : r < 1) :
    Calls Try.prog 15 #[.int .i64 t, .int .i64 u, .int .i64 r, .int .i64 k] w fun e w' => e = .returned (.bool true) ∧ Below w.heap.size w w' := by
  have h1 : inB t k r = false := by unfold inB; simp; omega
  have h2 : flD t r = 0 := by unfold flD; rw [if_pos hr]
  have h3 : flM t r = 0 := by unfold flM; rw [if_pos hr]
  go_enter Try.func15, Try.ntmps15
  go_wp2_with fail
  refine (alive_any _).mono ?_
  rintro e w1 ⟨rfl, hb⟩
  go_wp2_with fail
  refine (in_any t k r _ bt.1 bt.2 br.2).mono ?_
  rintro e w2 ⟨rfl, n, rfl⟩
  go_wp2_with fail
  refine (div_any t r _ bt.1 bt.2 br.2).mono ?_
  rintro e w2 ⟨rfl, n2, rfl⟩
  go_wp2_with fail
  refine (mod_any t r _ bt.1 bt.2 br.2).mono ?_
  rintro e w2 ⟨rfl, n3, rfl⟩
  go_wp2_with fail
  go_ret
  exact ⟨rfl, ab_drewN hb _⟩

theorem back_eq (t r : Int) (bt : -9223372036854775808 ≤ t ∧ t ≤ 9223372036854775807) (hr : ¬ r < 1) : wrap64 (wrap64 (flD t r * r) + flM t r) = t := by
  have e := Int.mul_ediv_add_emod t r
  unfold flD flM wrap64; rw [if_neg hr, if_neg hr, Int.mul_comm (t / r) r]; omega

set_option maxHeartbeats 400000 in
theorem rises_yes (t u r k : Int) (w : World) (bt : -9223372036854775808 ≤ t ∧ t ≤ 9223372036854775807) (bu : -9223372036854775808 ≤ u ∧ u ≤ 9223372036854775807) (br : -9223372036854775808 ≤ r ∧ r ≤ 9223372036854775807) (hr : ¬ r < 1) :
    Calls Try.prog 15 #[.int .i64 t, .int .i64 u, .int .i64 r, .int .i64 k] w fun e w' => e = .returned (.bool true) ∧ Below w.heap.size w w' := by
  have h1 : inB t k r = (flD t r == k) := by unfold inB; simp; omega
  have h2 := back_eq t r bt hr
  have h3 : 0 ≤ flM t r ∧ flM t r < r := by
    unfold flM; rw [if_neg hr]; exact ⟨Int.emod_nonneg _ (by omega), Int.emod_lt_of_pos _ (by omega)⟩
  obtain ⟨h3, h4⟩ := h3
  have h5 : t ≤ u → flD t r ≤ flD u r := by
    intro h; unfold flD; rw [if_neg hr, if_neg hr]; exact ediv_mono t u r (by omega) h
  by_cases h6 : t ≤ u
  · have h7 := h5 h6
    clear h5
    go_enter Try.func15, Try.ntmps15
    go_wp2_with fail
    refine (alive_any _).mono ?_
    rintro e w1 ⟨rfl, hb⟩
    go_wp2_with fail
    refine (div_any t r _ bt.1 bt.2 br.2).mono ?_
    rintro e w2 ⟨rfl, n2, rfl⟩
    go_wp2_with fail
    refine (div_any u r _ bu.1 bu.2 br.2).mono ?_
    rintro e w2 ⟨rfl, n3, rfl⟩
    go_wp2_with fail
    refine (mod_any t r _ bt.1 bt.2 br.2).mono ?_
    rintro e w2 ⟨rfl, n4, rfl⟩
    go_wp2_with fail
    refine (in_any t k r _ bt.1 bt.2 br.2).mono ?_
    rintro e w2 ⟨rfl, n, rfl⟩
    go_wp2_with fail
    go_ret
    exact ⟨rfl, ab_drewN hb _⟩
  · have h7 : decide (t ≤ u) = false := by simpa using h6
    clear h5
    go_enter Try.func15, Try.ntmps15
    go_wp2_with fail
    refine (alive_any _).mono ?_
    rintro e w1 ⟨rfl, hb⟩
    go_wp2_with fail
    refine (div_any t r _ bt.1 bt.2 br.2).mono ?_
    rintro e w2 ⟨rfl, n2, rfl⟩
    go_wp2_with fail
    refine (div_any u r _ bu.1 bu.2 br.2).mono ?_
    rintro e w2 ⟨rfl, n3, rfl⟩
    go_wp2_with fail
    refine (mod_any t r _ bt.1 bt.2 br.2).mono ?_
    rintro e w2 ⟨rfl, n4, rfl⟩
    go_wp2_with fail
    refine (in_any t k r _ bt.1 bt.2 br.2).mono ?_
    rintro e w2 ⟨rfl, n, rfl⟩
    go_wp2_with fail
    go_ret
    exact ⟨rfl, ab_drewN hb _⟩

theorem rises_any (t u r k : Int) (w : World) (bt : -9223372036854775808 ≤ t ∧ t ≤ 9223372036854775807) (bu : -9223372036854775808 ≤ u ∧ u ≤ 9223372036854775807) (br : -9223372036854775808 ≤ r ∧ r ≤ 9223372036854775807) :
    Calls Try.prog 15 #[.int .i64 t, .int .i64 u, .int .i64 r, .int .i64 k] w fun e w' => e = .returned (.bool true) ∧ Below w.heap.size w w' := by
  by_cases hr : r < 1
  · exact rises_no t u r k w bt br hr
  · exact rises_yes t u r k w bt bu br hr

set_option maxHeartbeats 400000 in
theorem walk (t : Int) (bt : -9223372036854775808 ≤ t ∧ t ≤ 9223372036854775807) (u : Int) (bu : -9223372036854775808 ≤ u ∧ u ≤ 9223372036854775807) (r : Int) (br : -9223372036854775808 ≤ r ∧ r ≤ 9223372036854775807) (k : Int) (bk : -9223372036854775808 ≤ k ∧ k ≤ 9223372036854775807) (w : World) :
    Calls Try.prog 4 #[.agg #[.int .i64 t, .int .i64 u, .int .i64 r, .int .i64 k]] w fun e w' => e = .returned (.bool true) ∧ Below w.heap.size w w' := by
  go_enter Try.func4, Try.ntmps4
  go_wp2_with fail
  refine (rises_any t u r k _ bt bu br).mono ?_
  rintro e w2 ⟨rfl, hb⟩
  go_wp2_with fail
  go_ret
  exact ⟨rfl, ab_trans (ab_alloc (Below.refl _ _) _) hb⟩

theorem own : ownKnob Try.prog.godebug = none := by kernel_rfl
theorem laidOut : laidOutB Try.prog = true := by kernel_rfl

set_option maxRecDepth 100000 in
theorem lifted (os : Os) (started : os.Started) (H : Type) (enc : TypeId × Value → H) :
    ReturnsInHanded {} Try.checked os 4 .any (Rows.floorRisesSpec.pre6 enc Try.prog Try.f4 Rows.floorRisesRow.domain false) (Rows.floorRisesSpec.post enc Try.prog Try.f4 false true false false) := by
  refine returnsInHanded_of_change (C := Try.checked) own started (by kernel_rfl) Try.func4
    (ChangeSpec.witness6 (enc := enc) (C := Try.checked) false ⟨#[], #[.agg #[.int .i64 0, .int .i64 0, .int .i64 0, .int .i64 0]], []⟩ 8 (by kernel_rfl) (by kernel_rfl) (by kernel_rfl) (by kernel_rfl)) ?_
  intro W base args ds gs before hval0 hW hcnd _
  have hval : ∀ (j : Nat) t v, Try.f4.params[j]? = some t → args[j]? = some v → Value.okWide Try.prog W .any base t v := hval0
  have hW' := hW
  obtain ⟨p, q, hA0, hV, rfl, hfz, hnd⟩ := hW
  have hA : DataW.TrodAll enc Try.prog W 0 (fun _ => true) true Try.f4.params.toList args.toList ds p := hA0
  rw [Try.params4] at hA hval
  obtain ⟨v0, vs0, d0, ds0, p0, q0, hargs, rfl, rfl, h0, r0⟩ := trodAll_cons hA
  obtain ⟨rfl, rfl, rfl⟩ := trodAll_nil r0
  obtain rfl : args = #[v0] := by cases args; simp_all
  obtain ⟨rfl, rfl⟩ := trodVars_none hV
  have k0 := h0
  have lt0 : ∀ x ∈ p0, x.block < W.heap.size := by obtain ⟨m, hm⟩ := k0; exact DataW.trod_lt m _ _ _ hm
  obtain ⟨c0_0, c0_1, c0_2, c0_3, y0_0, y0_1, y0_2, y0_3, m0, rfl, rfl, rfl, hy0_0, hy0_1, hy0_2, hy0_3⟩ := open_agg4 Try.underlying27 (by kernel_rfl) (by kernel_rfl) (hval 0 27 v0 rfl rfl) h0
  obtain ⟨a0_0, e0_0, rfl, w0_0⟩ := DataW.trod_int Try.underlying3 hy0_0
  simp at e0_0; subst e0_0
  obtain ⟨a0_1, e0_1, rfl, w0_1⟩ := DataW.trod_int Try.underlying3 hy0_1
  simp at e0_1; subst e0_1
  obtain ⟨a0_2, e0_2, rfl, w0_2⟩ := DataW.trod_int Try.underlying3 hy0_2
  simp at e0_2; subst e0_2
  obtain ⟨a0_3, e0_3, rfl, w0_3⟩ := DataW.trod_int Try.underlying3 hy0_3
  simp at e0_3; subst e0_3
  clear hA0 hval0
  refine (walk a0_0 (bounds_i64 w0_0) a0_1 (bounds_i64 w0_1) a0_2 (bounds_i64 w0_2) a0_3 (bounds_i64 w0_3) W).mono fun e W' ⟨he, bel⟩ => ?_
  subst he
  exact ⟨_, rfl, _, _, _, [], _, [], hW', trodAll_mk1 (shut_bool Try.underlying4 _), (trodAll_cons_mk (Below.trod laidOut (by kernel_rfl) (of_decide_eq_true (by kernel_rfl)) k0 bel lt0) trodAll_mk0), rfl, bel.frame _, fun h => by cases h⟩

theorem over : Rows.floorRisesRow.holds Try.pinned (OpenSpec.ofChange Rows.floorRisesSpec) :=
  OpenClaim.holds_of_wide 4 Try.f4 rfl rfl rfl rfl rfl rfl rfl ⟨rfl, rfl, rfl, rfl, rfl⟩ rfl rfl rfl rfl rfl (by kernel_rfl) Try.func4 (by kernel_rfl)
    (of_decide_eq_true (by kernel_rfl)) (by unfold Func.isWrapper; first | (rw [if_pos (by decide +kernel)]; kernel_rfl) | (rw [if_neg (by decide +kernel)]; exact ⟨rfl, rfl⟩))
    (fun os started H enc _ => lifted os started H enc)

theorem proved : Rows.FloorRisesSaid := over
end Go.Proofs.Ytahpnkdofnnolaa.floorRises
namespace Go.Proofs.Ytahpnkdofnnolaa
theorem floorRises_holds : Rows.FloorRisesSaid := floorRises.proved
#print axioms floorRises_holds
end Go.Proofs.Ytahpnkdofnnolaa
