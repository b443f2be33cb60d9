/-
  At a power of two a time's window is the time shifted right, with its sign: estuarylaw01.FloorShifts returns true for every input; no condition.
-/
import Derived.Test.YtahpnkdofnnolabWalk4
import Derived.ProofKit
import Derived.OpenShut
import Derived.ChangeOld
import Derived.Below
namespace Go.Proofs.Ytahpnkdofnnolab.floorShifts
open Go.ChangeShapes Go.WideShapes Go.ChangeAt Go.RowKit
set_option linter.unusedVariables false

set_option maxHeartbeats 400000 in
theorem walk (t : Int) (bt : -9223372036854775808 ≤ t ∧ t ≤ 9223372036854775807) (k : Int) (bk : -9223372036854775808 ≤ k ∧ k ≤ 9223372036854775807) (w : World) :
    Calls Try.prog 5 #[.int .i64 t, .int .i64 k] w fun e w' => e = .returned (.bool true) ∧ Below w.heap.size w w' := by
  obtain ⟨s, hs⟩ : ∃ s : Nat, (s : Int) = (IntKind.u64.wrap k).tmod 63 := by
    have b := IntKind.wrap_u64 k
    refine ⟨((IntKind.u64.wrap k).tmod 63).toNat, ?_⟩
    rw [b, Int.tmod_eq_emod_of_nonneg (by omega)]; omega
  have hs63 : s < 63 := by
    have b := IntKind.wrap_u64 k
    rw [b, Int.tmod_eq_emod_of_nonneg (by omega)] at hs; omega
  have hs2 := hs.symm
  clear hs
  have q3 := and_mask t s hs63
  have hp : (2 : Nat) ^ s ≤ 2 ^ 62 := Nat.pow_le_pow_right (by omega) (by omega)
  have hp1 : 0 < (2 : Nat) ^ s := Nat.pow_pos (by omega)
  have ec : ((2 : Int) ^ s) = (((2 : Nat) ^ s : Nat) : Int) := by simp
  have hR1 : 1 ≤ (2 : Int) ^ s := by omega
  have hR2 : (2 : Int) ^ s ≤ 4611686018427387904 := by omega
  clear hp hp1 ec
  have q4 : flD t ((2 : Int) ^ s) = t / (2 : Int) ^ s := by unfold flD; rw [if_neg (by omega)]
  have q5 : flM t ((2 : Int) ^ s) = t % (2 : Int) ^ s := by unfold flM; rw [if_neg (by omega)]
  go_enter Try.func5, Try.ntmps5
  go_wp2_with fail
  refine (alive_any _).mono ?_
  rintro e w1 ⟨rfl, hb⟩
  go_wp2_with fail
  refine (div_any t ((2 : Int) ^ s) _ bt.1 bt.2 (by omega)).mono ?_
  rintro e w2 ⟨rfl, n2, rfl⟩
  go_wp2_with fail
  refine (mod_any t ((2 : Int) ^ s) _ bt.1 bt.2 (by omega)).mono ?_
  rintro e w2 ⟨rfl, n3, rfl⟩
  go_wp2_with fail
  go_ret
  exact ⟨rfl, ab_drewN hb _⟩

theorem own : ownKnob Try.prog.godebug = none := by kernel_rfl
theorem laidOut : laidOutB Try.prog = true := by kernel_rfl

set_option maxRecDepth 100000 in
theorem lifted (os : Os) (started : os.Started) (H : Type) (enc : TypeId × Value → H) :
    ReturnsInHanded {} Try.checked os 5 .any (Rows.floorShiftsSpec.pre6 enc Try.prog Try.f5 Rows.floorShiftsRow.domain false) (Rows.floorShiftsSpec.post enc Try.prog Try.f5 false true false false) := by
  refine returnsInHanded_of_change (C := Try.checked) own started (by kernel_rfl) Try.func5
    (ChangeSpec.witness6 (enc := enc) (C := Try.checked) false ⟨#[], #[.int .i64 0, .int .i64 0], []⟩ 8 (by kernel_rfl) (by kernel_rfl) (by kernel_rfl) (by kernel_rfl)) ?_
  intro W base args ds gs before hval0 hW hcnd _
  have hval : ∀ (j : Nat) t v, Try.f5.params[j]? = some t → args[j]? = some v → Value.okWide Try.prog W .any base t v := hval0
  have hW' := hW
  obtain ⟨p, q, hA0, hV, rfl, hfz, hnd⟩ := hW
  have hA : DataW.TrodAll enc Try.prog W 0 (fun _ => true) true Try.f5.params.toList args.toList ds p := hA0
  rw [Try.params5] at hA hval
  obtain ⟨v0, vs0, d0, ds0, p0, q0, hargs, rfl, rfl, h0, r0⟩ := trodAll_cons hA
  obtain ⟨v1, vs1, d1, ds1, p1, q1, rfl, rfl, rfl, h1, r1⟩ := trodAll_cons r0
  obtain ⟨rfl, rfl, rfl⟩ := trodAll_nil r1
  obtain rfl : args = #[v0, v1] := by cases args; simp_all
  obtain ⟨rfl, rfl⟩ := trodVars_none hV
  have k0 := h0
  have lt0 : ∀ x ∈ p0, x.block < W.heap.size := by obtain ⟨m, hm⟩ := k0; exact DataW.trod_lt m _ _ _ hm
  have k1 := h1
  have lt1 : ∀ x ∈ p1, x.block < W.heap.size := by obtain ⟨m, hm⟩ := k1; exact DataW.trod_lt m _ _ _ hm
  obtain ⟨a0, rfl, rfl, rfl, w0⟩ := open_int Try.underlying3 (hval 0 3 v0 rfl rfl) h0
  obtain ⟨a1, rfl, rfl, rfl, w1⟩ := open_int Try.underlying3 (hval 1 3 v1 rfl rfl) h1
  clear hA0 hval0
  refine (walk a0 (bounds_i64 w0) a1 (bounds_i64 w1) W).mono fun e W' ⟨he, bel⟩ => ?_
  subst he
  exact ⟨_, rfl, _, _, _, [], _, [], hW', trodAll_mk1 (shut_bool Try.underlying4 _), (trodAll_cons_mk (Below.trod laidOut (by kernel_rfl) (of_decide_eq_true (by kernel_rfl)) k0 bel lt0) (trodAll_cons_mk (Below.trod laidOut (by kernel_rfl) (of_decide_eq_true (by kernel_rfl)) k1 bel lt1) trodAll_mk0)), rfl, bel.frame _, fun h => by cases h⟩

theorem over : Rows.floorShiftsRow.holds Try.pinned (OpenSpec.ofChange Rows.floorShiftsSpec) :=
  OpenClaim.holds_of_wide 5 Try.f5 rfl rfl rfl rfl rfl rfl rfl ⟨rfl, rfl, rfl, rfl, rfl⟩ rfl rfl rfl rfl rfl (by kernel_rfl) Try.func5 (by kernel_rfl)
    (of_decide_eq_true (by kernel_rfl)) (by unfold Func.isWrapper; first | (rw [if_pos (by decide +kernel)]; kernel_rfl) | (rw [if_neg (by decide +kernel)]; exact ⟨rfl, rfl⟩))
    (fun os started H enc _ => lifted os started H enc)

theorem proved : Rows.FloorShiftsSaid := over
end Go.Proofs.Ytahpnkdofnnolab.floorShifts
namespace Go.Proofs.Ytahpnkdofnnolab
theorem floorShifts_holds : Rows.FloorShiftsSaid := floorShifts.proved
#print axioms floorShifts_holds
end Go.Proofs.Ytahpnkdofnnolab
