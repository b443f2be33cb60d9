/-
  A nil keeper: estuarylaw12.KeeperNone returns true for every input; no condition.
-/
import Derived.Test.YtlhamckpgijjmaaPk50
import Derived.Test.YtlhamckpgijjmaaPk43
import Derived.ProofKit
import Derived.OpenShut
import Derived.ChangeOld
import Derived.Below
namespace Go.Proofs.Ytlhamckpgijjmaa.keeperNone
open Go.ChangeShapes Go.WideShapes Go.ChangeAt Go.RowKit Go.Joins
set_option linter.unusedVariables false

theorem ne50 (w : World) : (binOp .neq 28 (Err 5) .nilIface).run Try.prog w = .ok (.bool true) w := by kernel_rfl
theorem eq55 (w : World) : (binOp .eql 28 (Err 5) (Err 5)).run Try.prog w = .ok (.bool true) w := by kernel_rfl
set_option maxHeartbeats 1000000 in
set_option maxRecDepth 100000 in
theorem kopen_nil (w : World) : Calls Try.prog 9 #[.int .i64 0, .pointer none] w fun e w' => e = .returned (.tuple #[.pointer none, Err 5]) ∧ w' = w := by
  go_enter Try.func9, Try.ntmps9
  go_wp2_with fail
  refine (dopen_nil _).mono ?_
  rintro e W1 ⟨rfl, rfl⟩
  have E1 := ne50
  go_wp2_with fail
  go_ret2
  exact ⟨rfl, rfl⟩
set_option maxHeartbeats 4000000 in
set_option maxRecDepth 100000 in
theorem none_walk (N : Nt) (q1 q2 q3 : Option Addr) (n1 n2 n3 c1 c2 c3 : Nat) (w : World) :
    Calls Try.prog 5 #[ntV N (.slice q1 n1 c1) (.slice q2 n2 c2) (.slice q3 n3 c3)] w fun e w' => e = .returned (.bool true) ∧ Below w.heap.size w w' := by
  obtain ⟨k, f, t, ns, xs, es⟩ := N
  obtain ⟨A, hAe, hA, vA⟩ := blk1 w #[.int .i64 k, .int .i64 f, .int .i64 t, .slice q1 n1 c1, .slice q2 n2 c2, .slice q3 n3 c3] 35
  go_enter Try.func5, Try.ntmps5
  go_upto_region 1 with fail
  clear hAe
  go_wp2_with fail
  refine (alive12_any _).mono ?_
  rintro e W1 ⟨rfl, b1⟩
  have hw1 := ab_trans vA b1
  have hA1 := hA.keep b1
  clear vA b1 hA
  go_wp2_with fail
  refine (kopen_nil _).mono ?_
  rintro e W2 ⟨rfl, rfl⟩
  have a0 : W2.cell? ⟨w.heap.size, 0, none⟩ = some (.int .i64 k) := hA1.at rfl
  have a1 : W2.cell? ⟨w.heap.size, 1, none⟩ = some (.int .i64 f) := hA1.at rfl
  have a2 : W2.cell? ⟨w.heap.size, 2, none⟩ = some (.int .i64 t) := hA1.at rfl
  have a3 : W2.cell? ⟨w.heap.size, 3, none⟩ = some (.slice q1 n1 c1) := hA1.at rfl
  have a4 : W2.cell? ⟨w.heap.size, 4, none⟩ = some (.slice q2 n2 c2) := hA1.at rfl
  have a5 : W2.cell? ⟨w.heap.size, 5, none⟩ = some (.slice q3 n3 c3) := hA1.at rfl
  clear hA1
  go_wp2_with fail
  refine (khandle_nil ⟨k, f, t, ns, xs, es⟩ _ _ _ _ _ _ _ _ _ _).mono ?_
  rintro e W3 ⟨rfl, b3⟩
  clear a0 a1 a2 a3 a4 a5
  go_wp2_with fail
  refine (kregister_nil 0 _).mono ?_
  rintro e W4 ⟨⟨q, n, c, rfl, hO4, hn⟩, b4⟩
  have hn : n = 0 := hn.symm
  subst hn
  go_wp2_with fail
  refine (same9_any zR zR _ _ _ hO4.is (Is.nil _) (by decide)).mono ?_
  rintro e W5 ⟨rfl, b5⟩
  rw [smR_self]
  go_wp2_with fail
  refine (krows_nil _).mono ?_
  rintro e W6 ⟨rfl, rfl⟩
  have E1 := eq55
  go_wp2_with fail
  go_ret
  exact ⟨rfl, ab_trans hw1 (ab_trans b3 (ab_trans b4 b5))⟩
theorem walk {W : World} (N : Nt) (vn vo ve : Value) (hI : Is W vn N.ns) (hO : SR 5 k64 W vo N.os) (hE : SR 76 ek W ve N.es) (hN : WN N) (hL : LenN N) :
    Calls Try.prog 5 #[ntV N vn vo ve] W fun e w' => e = .returned (.bool true) ∧ Below W.heap.size W w' := by
  obtain ⟨q1, c1, rfl⟩ := hI.form
  obtain ⟨q2, c2, g2, o2, rfl, -⟩ := hO
  obtain ⟨q3, c3, g3, o3, rfl, -⟩ := hE
  exact none_walk N _ _ _ _ _ _ _ _ _ W
theorem own : ownKnob Try.prog.godebug = none := by kernel_rfl
theorem laidOut : laidOutB Try.prog = true := by kernel_rfl

set_option maxRecDepth 100000 in
theorem lifted (os : Os) (started : os.Started) (H : Type) (enc : TypeId × Value → H) :
    ReturnsInHanded {} Try.checked os 5 .any (Rows.keeperNoneSpec.pre6 enc Try.prog Try.f5 Rows.keeperNoneRow.domain false) (Rows.keeperNoneSpec.post enc Try.prog Try.f5 false true false false) := by
  refine returnsInHanded_of_change_sized (C := Try.checked) own started (by kernel_rfl) Try.func5
    (ChangeSpec.witness6 (enc := enc) (C := Try.checked) false ⟨#[], #[.agg #[.int .i64 0, .int .i64 0, .int .i64 0, .slice none 0 0, .slice none 0 0, .slice none 0 0]], []⟩ 8 (by kernel_rfl) (by kernel_rfl) (by kernel_rfl) (by kernel_rfl)) ?_
  intro W base args ds gs before hval0 hW hcnd hsz _
  have hval : ∀ (j : Nat) t v, Try.f5.params[j]? = some t → args[j]? = some v → Value.okWide Try.prog W .any base t v := hval0
  have hW' := hW
  obtain ⟨p, q, hA0, hV, rfl, hfz, hnd⟩ := hW
  have hA : DataW.TrodAll enc Try.prog W 0 (fun _ => true) true Try.f5.params.toList args.toList ds p := hA0
  rw [Try.params5] at hA hval
  obtain ⟨v0, vs0, d0, ds0, p0, q0, hargs, rfl, rfl, h0, r0⟩ := trodAll_cons hA
  obtain ⟨rfl, rfl, rfl⟩ := trodAll_nil r0
  obtain rfl : args = #[v0] := by cases args; simp_all
  obtain ⟨rfl, rfl⟩ := trodVars_none hV
  have k0 := h0
  have lt0 : ∀ x ∈ p0, x.block < W.heap.size := by obtain ⟨m, hm⟩ := k0; exact DataW.trod_lt m _ _ _ hm
  obtain ⟨N0, vn0, vo0, ve0, rfl, hI0, hO0, hE0, hN0, hL0⟩ := open_note (hval 0 35 v0 rfl rfl) h0 (fun n hn => by simpa using List.all_eq_true.1 hsz n (DataW.weights_mem_each (j := 0) (t := 35) (by kernel_rfl) rfl n hn))
  clear hA0 hval0
  refine (walk N0 vn0 vo0 ve0 hI0 hO0 hE0 hN0 hL0).mono fun e W' ⟨he, bel⟩ => ?_
  subst he
  exact ⟨_, rfl, _, _, _, [], _, [], hW', trodAll_mk1 (shut_bool Try.underlying4 _), (trodAll_cons_mk (Below.trod laidOut (by kernel_rfl) (of_decide_eq_true (by kernel_rfl)) k0 bel lt0) trodAll_mk0), rfl, bel.frame _, fun h => by cases h⟩

theorem over : Rows.keeperNoneRow.holds Try.pinned (OpenSpec.ofChange Rows.keeperNoneSpec) :=
  OpenClaim.holds_of_wide 5 Try.f5 rfl rfl rfl rfl rfl rfl rfl ⟨rfl, rfl, rfl, rfl, rfl⟩ rfl rfl rfl rfl rfl (by kernel_rfl) Try.func5 (by kernel_rfl)
    (of_decide_eq_true (by kernel_rfl)) (by unfold Func.isWrapper; first | (rw [if_pos (by decide +kernel)]; kernel_rfl) | (rw [if_neg (by decide +kernel)]; exact ⟨rfl, rfl⟩))
    (fun os started H enc _ => lifted os started H enc)

theorem proved : Rows.KeeperNoneSaid := over
end Go.Proofs.Ytlhamckpgijjmaa.keeperNone
namespace Go.Proofs.Ytlhamckpgijjmaa
theorem keeperNone_holds : Rows.KeeperNoneSaid := keeperNone.proved
#print axioms keeperNone_holds
end Go.Proofs.Ytlhamckpgijjmaa
