/-
  A nil spring: estuarylaw15.SpringNone returns true for every input; no condition.
-/
import Derived.Test.YthmolbcnbcajdaaGreatPk53
import Derived.Test.YthmolbcnbcajdaaGreatPk47
import Derived.ProofKit
import Derived.OpenShut
import Derived.ChangeOld
import Derived.Below
namespace Go.Proofs.YthmolbcnbcajdaaGreat.springNone
open Go.ChangeShapes Go.WideShapes Go.ChangeAt Go.RowKit Go.Joins
set_option linter.unusedVariables false
set_option maxRecDepth 100000

theorem eq55 (w : World) : (binOp .eql 32 (Err 5) (Err 5)).run Tryz.prog w = .ok (.bool true) w := by kernel_rfl
set_option maxHeartbeats 4000000 in
theorem none_walk (N : Nt) (q1 q2 q3 : Option Addr) (n1 n2 n3 c1 c2 c3 : Nat) (w : World) :
    Calls Tryz.prog 3 #[ntV N (.slice q1 n1 c1) (.slice q2 n2 c2) (.slice q3 n3 c3)] w fun e w' => e = .returned (.bool true) ∧ Below w.heap.size w w' := by
  obtain ⟨k, f, t, ns, xs, es⟩ := N
  obtain ⟨A, hAe, hA, vA⟩ := blk1 w #[.int .i64 k, .int .i64 f, .int .i64 t, .slice q1 n1 c1, .slice q2 n2 c2, .slice q3 n3 c3] 26
  have E5 := eq55
  go_enter Tryz.func3, Tryz.ntmps3
  go_upto_region 1 with fail
  clear hAe
  go_wp2_with fail
  refine (alive15_any _).mono ?_
  rintro e W1 ⟨rfl, b1⟩
  have hw1 := ab_trans vA b1
  have hA1 := hA.keep b1
  clear vA b1 hA
  have he := fun V => spemit_nil 1 2 3 V
  have hm := fun V => spmark_nil 1 V
  rw [show opV zOp = .agg #[.int .i64 0, .int .i64 0, .int .i64 0, .int .i64 0, .int .i64 0] from rfl] at he hm
  go_wp2_with fail
  refine (he _).mono ?_
  rintro e W2 ⟨rfl, b2⟩
  go_wp2_with fail
  generalize hZ2 : W2.alloc _ = Z2
  have z2 : Below W2.heap.size W2 Z2 := by rw [← hZ2]; exact (Below.refl _ _).alloc (Nat.le_refl _) _
  clear hZ2
  refine (hm _).mono ?_
  rintro e W3 ⟨rfl, b3⟩
  go_upto_region 6 with fail
  generalize hZ3 : W3.alloc _ = Z3
  have z3 : Below W3.heap.size W3 Z3 := by rw [← hZ3]; exact (Below.refl _ _).alloc (Nat.le_refl _) _
  clear hZ3
  go_wp2_with (refine bs_own rfl rfl [1] (by simp only [List.map_toArray, List.map_cons, List.map_nil]; rfl) (isl1 _ _) rfl (by decide) ?_; intro W4 hN4 b4 z4; clear z4; go_frame)
  refine (spopen_nil 0 1 _ [1] 1 1 _ (by omega) (by omega) (by omega) (by omega) (own_is hN4) (by decide) (by decide +kernel)).mono ?_
  rintro e W5 ⟨rfl, b5⟩
  have b25 := ab_trans (ab_trans (ab_trans (ab_trans (ab_trans b2 z2) b3) z3) b4) b5
  have hw5 := ab_trans hw1 b25
  have hA5 := hA1.keep b25
  clear hN4 b2 z2 b3 z3 b4 b5 b25 he hm hw1 hA1
  have a0 : W5.cell? ⟨w.heap.size, 0, none⟩ = some (.int .i64 k) := hA5.at rfl
  have a1 : W5.cell? ⟨w.heap.size, 1, none⟩ = some (.int .i64 f) := hA5.at rfl
  have a2 : W5.cell? ⟨w.heap.size, 2, none⟩ = some (.int .i64 t) := hA5.at rfl
  have a3 : W5.cell? ⟨w.heap.size, 3, none⟩ = some (.slice q1 n1 c1) := hA5.at rfl
  have a4 : W5.cell? ⟨w.heap.size, 4, none⟩ = some (.slice q2 n2 c2) := hA5.at rfl
  have a5 : W5.cell? ⟨w.heap.size, 5, none⟩ = some (.slice q3 n3 c3) := hA5.at rfl
  clear hA5
  go_wp2_with (first
    | (go_at_call 8; refine (sphandle_nil _ _ _ _ _ _ _ _ _ _ _ _ _).mono ?_; rintro e W6 ⟨rfl, b6⟩; clear a0 a1 a2 a3 a4 a5)
    | (go_at_call 9; refine (spstream_nil _).mono ?_; rintro e W7 ⟨rfl, rfl⟩)
    | (go_at_call 10; refine (sprows_nil _).mono ?_; rintro e W7 ⟨rfl, rfl⟩))
  go_ret
  exact ⟨by first | rfl | simp, ab_trans hw5 b6⟩
theorem walk {W : World} (N : Nt) (vn vo ve : Value) (hI : Is W vn N.ns) (hO : SR 5 k64 W vo N.os) (hE : SR 76 ek W ve N.es) (hN : WN N) (hL : LenN N) :
    Calls Tryz.prog 3 #[ntV N vn vo ve] W fun e w' => e = .returned (.bool true) ∧ Below W.heap.size W w' := by
  obtain ⟨q1, c1, rfl⟩ := hI.form
  obtain ⟨q2, c2, g2, o2, rfl, -⟩ := hO
  obtain ⟨q3, c3, g3, o3, rfl, -⟩ := hE
  exact none_walk N _ _ _ _ _ _ _ _ _ W
theorem own : ownKnob Tryz.prog.godebug = none := by kernel_rfl
theorem laidOut : laidOutB Tryz.prog = true := by kernel_rfl

set_option maxRecDepth 100000 in
theorem lifted (os : Os) (started : os.Started) (H : Type) (enc : TypeId × Value → H) :
    ReturnsInHanded {} Tryz.checked os 3 .any (Rows.springNoneSpec.pre6 enc Tryz.prog Tryz.f3 Rows.springNoneRow.domain false) (Rows.springNoneSpec.post enc Tryz.prog Tryz.f3 false true false false) := by
  refine returnsInHanded_of_change_sized (C := Tryz.checked) own started (by kernel_rfl) Tryz.func3
    (ChangeSpec.witness6 (enc := enc) (C := Tryz.checked) false ⟨#[], #[.agg #[.int .i64 0, .int .i64 0, .int .i64 0, .slice none 0 0, .slice none 0 0, .slice none 0 0]], []⟩ 8 (by kernel_rfl) (by kernel_rfl) (by kernel_rfl) (by kernel_rfl)) ?_
  intro W base args ds gs before hval0 hW hcnd hsz _
  have hval : ∀ (j : Nat) t v, Tryz.f3.params[j]? = some t → args[j]? = some v → Value.okWide Tryz.prog W .any base t v := hval0
  have hW' := hW
  obtain ⟨p, q, hA0, hV, rfl, hfz, hnd⟩ := hW
  have hA : DataW.TrodAll enc Tryz.prog W 0 (fun _ => true) true Tryz.f3.params.toList args.toList ds p := hA0
  rw [Tryz.params3] at hA hval
  obtain ⟨v0, vs0, d0, ds0, p0, q0, hargs, rfl, rfl, h0, r0⟩ := trodAll_cons hA
  obtain ⟨rfl, rfl, rfl⟩ := trodAll_nil r0
  obtain rfl : args = #[v0] := by cases args; simp_all
  obtain ⟨rfl, rfl⟩ := trodVars_none hV
  have k0 := h0
  have lt0 : ∀ x ∈ p0, x.block < W.heap.size := by obtain ⟨m, hm⟩ := k0; exact DataW.trod_lt m _ _ _ hm
  obtain ⟨N0, vn0, vo0, ve0, rfl, hI0, hO0, hE0, hN0, hL0⟩ := open_note (hval 0 26 v0 rfl rfl) h0 (fun n hn => by simpa using List.all_eq_true.1 hsz n (DataW.weights_mem_each (j := 0) (t := 26) (by kernel_rfl) rfl n hn))
  clear hA0 hval0
  refine (walk N0 vn0 vo0 ve0 hI0 hO0 hE0 hN0 hL0).mono fun e W' ⟨he, bel⟩ => ?_
  subst he
  exact ⟨_, rfl, _, _, _, [], _, [], hW', trodAll_mk1 (shut_bool Tryz.underlying4 _), (trodAll_cons_mk (Below.trod laidOut (by kernel_rfl) (of_decide_eq_true (by kernel_rfl)) k0 bel lt0) trodAll_mk0), rfl, bel.frame _, fun h => by cases h⟩

theorem over : Rows.springNoneRow.holds Tryz.pinned (OpenSpec.ofChange Rows.springNoneSpec) :=
  OpenClaim.holds_of_wide 3 Tryz.f3 rfl rfl rfl rfl rfl rfl rfl ⟨rfl, rfl, rfl, rfl, rfl⟩ rfl rfl rfl rfl rfl (by kernel_rfl) Tryz.func3 (by kernel_rfl)
    (of_decide_eq_true (by kernel_rfl)) (by unfold Func.isWrapper; first | (rw [if_pos (by decide +kernel)]; kernel_rfl) | (rw [if_neg (by decide +kernel)]; exact ⟨rfl, rfl⟩))
    (fun os started H enc _ => lifted os started H enc)

theorem proved : Rows.SpringNoneSaid := over
end Go.Proofs.YthmolbcnbcajdaaGreat.springNone
namespace Go.Proofs.YthmolbcnbcajdaaGreat
theorem springNone_holds : Rows.SpringNoneSaid := springNone.proved
#print axioms springNone_holds
end Go.Proofs.YthmolbcnbcajdaaGreat
