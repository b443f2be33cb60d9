/-
  Windows of windows are windows: estuarylaw01.FloorNests returns true for every input; no condition.
-/
import Derived.Test.YtahpnkdofnnolabWalk4
import Derived.ProofKit
import Derived.OpenShut
import Derived.ChangeOld
import Derived.Below
namespace Go.Proofs.Ytahpnkdofnnolab.floorNests
open Go.ChangeShapes Go.WideShapes Go.ChangeAt Go.RowKit
set_option linter.unusedVariables false

set_option maxHeartbeats 400000 in
theorem out (t a b : Int) (w : World) (h : a < 1 ∨ (1 ≤ a ∧ b < 1) ∨ (1 ≤ a ∧ 1 ≤ b ∧ 2147483648 < a) ∨ (1 ≤ a ∧ 1 ≤ b ∧ a ≤ 2147483648 ∧ 2147483648 < b)) :
    Calls Try.prog 6 #[.int .i64 t, .int .i64 a, .int .i64 b] w fun e w' => e = .returned (.bool true) ∧ Below w.heap.size w w' := by
  rcases h with h | ⟨h, g⟩ | ⟨h, g, i⟩ | ⟨h, g, i, j⟩
  all_goals
    go_enter Try.func6, Try.ntmps6
    go_wp2_with fail
    refine (alive_any _).mono ?_
    rintro e w1 ⟨rfl, hb⟩
    go_wp2_with fail
    go_ret
    exact ⟨rfl, hb⟩

set_option maxHeartbeats 400000 in
theorem inn (t a b : Int) (w : World) (bt : -9223372036854775808 ≤ t ∧ t ≤ 9223372036854775807) (a0 : 1 ≤ a) (a1 : a ≤ 2147483648) (b0 : 1 ≤ b) (b1 : b ≤ 2147483648) :
    Calls Try.prog 6 #[.int .i64 t, .int .i64 a, .int .i64 b] w fun e w' => e = .returned (.bool true) ∧ Below w.heap.size w w' := by
  have p0 : 1 ≤ a * b := by have := Int.mul_le_mul a0 b0 (by omega) (by omega); omega
  have p1 : a * b ≤ 4611686018427387904 := by have := Int.mul_le_mul a1 b1 (by omega) (by omega); omega
  have d1 := flD_bd t a bt.1 bt.2
  have d2 := flM_bd t (a * b) (by omega)
  have e1 : flD (flD t a) b = flD t (a * b) := by
    unfold flD; rw [if_neg (by omega), if_neg (by omega), if_neg (by omega), Int.ediv_ediv_of_nonneg (by omega)]
  have e2 : flM (flM t (a * b)) a = flM t a := by
    unfold flM; rw [if_neg (by omega), if_neg (by omega), if_neg (by omega)]; exact Int.emod_emod_of_dvd t ⟨b, rfl⟩
  go_enter Try.func6, Try.ntmps6
  go_wp2_with fail
  refine (alive_any _).mono ?_
  rintro e w1 ⟨rfl, hb⟩
  go_wp2_with fail
  refine (div_any t a _ bt.1 bt.2 (by omega)).mono ?_
  rintro e w2 ⟨rfl, n2, rfl⟩
  go_wp2_with fail
  refine (div_any (flD t a) b _ d1.1 d1.2 (by omega)).mono ?_
  rintro e w2 ⟨rfl, n3, rfl⟩
  go_wp2_with fail
  refine (div_any t (a * b) _ bt.1 bt.2 (by omega)).mono ?_
  rintro e w2 ⟨rfl, n4, rfl⟩
  go_wp2_with fail
  refine (mod_any t (a * b) _ bt.1 bt.2 (by omega)).mono ?_
  rintro e w2 ⟨rfl, n5, rfl⟩
  go_wp2_with fail
  refine (mod_any (flM t (a * b)) a _ (by omega) (by omega) (by omega)).mono ?_
  rintro e w2 ⟨rfl, n6, rfl⟩
  go_wp2_with fail
  refine (mod_any t a _ bt.1 bt.2 (by omega)).mono ?_
  rintro e w2 ⟨rfl, n7, rfl⟩
  go_wp2_with fail
  go_ret
  exact ⟨rfl, ab_drewN hb _⟩

theorem walk (t : Int) (bt : -9223372036854775808 ≤ t ∧ t ≤ 9223372036854775807) (a : Int) (ba : -9223372036854775808 ≤ a ∧ a ≤ 9223372036854775807) (b : Int) (bb : -9223372036854775808 ≤ b ∧ b ≤ 9223372036854775807) (w : World) :
    Calls Try.prog 6 #[.int .i64 t, .int .i64 a, .int .i64 b] w fun e w' => e = .returned (.bool true) ∧ Below w.heap.size w w' := by
  by_cases h : 1 ≤ a ∧ a ≤ 2147483648 ∧ 1 ≤ b ∧ b ≤ 2147483648
  · exact inn t a b w bt h.1 h.2.1 h.2.2.1 h.2.2.2
  · exact out t a b w (by omega)

theorem own : ownKnob Try.prog.godebug = none := by kernel_rfl
theorem laidOut : laidOutB Try.prog = true := by kernel_rfl

set_option maxRecDepth 100000 in
theorem lifted (os : Os) (started : os.Started) (H : Type) (enc : TypeId × Value → H) :
    ReturnsInHanded {} Try.checked os 6 .any (Rows.floorNestsSpec.pre6 enc Try.prog Try.f6 Rows.floorNestsRow.domain false) (Rows.floorNestsSpec.post enc Try.prog Try.f6 false true false false) := by
  refine returnsInHanded_of_change (C := Try.checked) own started (by kernel_rfl) Try.func6
    (ChangeSpec.witness6 (enc := enc) (C := Try.checked) false ⟨#[], #[.int .i64 0, .int .i64 0, .int .i64 0], []⟩ 8 (by kernel_rfl) (by kernel_rfl) (by kernel_rfl) (by kernel_rfl)) ?_
  intro W base args ds gs before hval0 hW hcnd _
  have hval : ∀ (j : Nat) t v, Try.f6.params[j]? = some t → args[j]? = some v → Value.okWide Try.prog W .any base t v := hval0
  have hW' := hW
  obtain ⟨p, q, hA0, hV, rfl, hfz, hnd⟩ := hW
  have hA : DataW.TrodAll enc Try.prog W 0 (fun _ => true) true Try.f6.params.toList args.toList ds p := hA0
  rw [Try.params6] at hA hval
  obtain ⟨v0, vs0, d0, ds0, p0, q0, hargs, rfl, rfl, h0, r0⟩ := trodAll_cons hA
  obtain ⟨v1, vs1, d1, ds1, p1, q1, rfl, rfl, rfl, h1, r1⟩ := trodAll_cons r0
  obtain ⟨v2, vs2, d2, ds2, p2, q2, rfl, rfl, rfl, h2, r2⟩ := trodAll_cons r1
  obtain ⟨rfl, rfl, rfl⟩ := trodAll_nil r2
  obtain rfl : args = #[v0, v1, v2] := by cases args; simp_all
  obtain ⟨rfl, rfl⟩ := trodVars_none hV
  have k0 := h0
  have lt0 : ∀ x ∈ p0, x.block < W.heap.size := by obtain ⟨m, hm⟩ := k0; exact DataW.trod_lt m _ _ _ hm
  have k1 := h1
  have lt1 : ∀ x ∈ p1, x.block < W.heap.size := by obtain ⟨m, hm⟩ := k1; exact DataW.trod_lt m _ _ _ hm
  have k2 := h2
  have lt2 : ∀ x ∈ p2, x.block < W.heap.size := by obtain ⟨m, hm⟩ := k2; exact DataW.trod_lt m _ _ _ hm
  obtain ⟨a0, rfl, rfl, rfl, w0⟩ := open_int Try.underlying3 (hval 0 3 v0 rfl rfl) h0
  obtain ⟨a1, rfl, rfl, rfl, w1⟩ := open_int Try.underlying3 (hval 1 3 v1 rfl rfl) h1
  obtain ⟨a2, rfl, rfl, rfl, w2⟩ := open_int Try.underlying3 (hval 2 3 v2 rfl rfl) h2
  clear hA0 hval0
  refine (walk a0 (bounds_i64 w0) a1 (bounds_i64 w1) a2 (bounds_i64 w2) W).mono fun e W' ⟨he, bel⟩ => ?_
  subst he
  exact ⟨_, rfl, _, _, _, [], _, [], hW', trodAll_mk1 (shut_bool Try.underlying4 _), (trodAll_cons_mk (Below.trod laidOut (by kernel_rfl) (of_decide_eq_true (by kernel_rfl)) k0 bel lt0) (trodAll_cons_mk (Below.trod laidOut (by kernel_rfl) (of_decide_eq_true (by kernel_rfl)) k1 bel lt1) (trodAll_cons_mk (Below.trod laidOut (by kernel_rfl) (of_decide_eq_true (by kernel_rfl)) k2 bel lt2) trodAll_mk0))), rfl, bel.frame _, fun h => by cases h⟩

theorem over : Rows.floorNestsRow.holds Try.pinned (OpenSpec.ofChange Rows.floorNestsSpec) :=
  OpenClaim.holds_of_wide 6 Try.f6 rfl rfl rfl rfl rfl rfl rfl ⟨rfl, rfl, rfl, rfl, rfl⟩ rfl rfl rfl rfl rfl (by kernel_rfl) Try.func6 (by kernel_rfl)
    (of_decide_eq_true (by kernel_rfl)) (by unfold Func.isWrapper; first | (rw [if_pos (by decide +kernel)]; kernel_rfl) | (rw [if_neg (by decide +kernel)]; exact ⟨rfl, rfl⟩))
    (fun os started H enc _ => lifted os started H enc)

theorem proved : Rows.FloorNestsSaid := over
end Go.Proofs.Ytahpnkdofnnolab.floorNests
namespace Go.Proofs.Ytahpnkdofnnolab
theorem floorNests_holds : Rows.FloorNestsSaid := floorNests.proved
#print axioms floorNests_holds
end Go.Proofs.Ytahpnkdofnnolab
