/-
  A nil watch: estuarylaw13.TenureNone returns true for every input; no condition.
-/
import Derived.Test.YtddpdmolknfjaaaTnE
import Derived.ProofKit
import Derived.OpenShut
import Derived.ChangeOld
import Derived.Below
namespace Go.Proofs.Ytddpdmolknfjaaa.tenureNone
open Go.ChangeShapes Go.WideShapes Go.ChangeAt Go.RowKit Go.Joins
set_option linter.unusedVariables false

set_option maxHeartbeats 4000000 in
set_option maxRecDepth 100000 in
theorem none_walk (v : Value) (l : List Int) (w : World) (hv : Is w v l) :
    Calls Try.prog 7 #[v] w fun e w' => e = .returned (.bool true) ∧ Below w.heap.size w w' := by
  go_enter Try.func7, Try.ntmps7
  go_wp2_with fail
  refine (alive13_any _).mono ?_
  rintro e W1 ⟨rfl, b1⟩
  go_wp2_with fail
  refine (ttick_nil _).mono ?_
  rintro e W2 ⟨rfl, rfl⟩
  go_wp2_with fail
  refine (tsaw_nil v _).mono ?_
  rintro e W2 ⟨rfl, rfl⟩
  go_wp2_with fail
  refine (tleads_nil _).mono ?_
  rintro e W3 ⟨rfl, b3⟩
  go_wp2_with fail
  refine (tlease_nil _).mono ?_
  rintro e W4 ⟨rfl, b4⟩
  have hw4 := ab_trans b1 (ab_trans b3 b4)
  obtain ⟨A, hAe, hB, hwA⟩ := blk1 W4 (leC zL) 29
  go_upto_region 8 with (refine st_le rfl rfl (k1 := zL) hB rfl rfl ?_; intro W5 hB5 C5)
  have hw5 : Below w.heap.size w W5 := ab_chg (ab_trans hw4 hwA) C5 hw4.size
  have y0 : W5.cell? ⟨W4.heap.size, 0, none⟩ = some (.int .i64 0) := hB5.at rfl
  have y1 : W5.cell? ⟨W4.heap.size, 1, none⟩ = some (.int .i64 0) := hB5.at rfl
  have y2 : W5.cell? ⟨W4.heap.size, 2, none⟩ = some (.int .i64 0) := hB5.at rfl
  have y3 : W5.cell? ⟨W4.heap.size, 3, none⟩ = some (.int .i64 0) := hB5.at rfl
  have E1 := eqLe zL
  clear hAe hB hwA C5 b1 b3 b4 hw4 hv
  go_wp2_with fail
  refine (tage_nil _).mono ?_
  rintro e W6 ⟨rfl, rfl⟩
  go_wp2_with fail
  refine (twant_nil _).mono ?_
  rintro e W7 ⟨rfl, b7⟩
  go_wp2_with fail
  refine (tsame_any 1 1 _ _ _ _ [] [] [] [] _ (Is.nil _) (Is.nil _) (Is.nil _) (Is.nil _) (by decide) (by decide) (by decide) (by decide)).mono ?_
  rintro e W8 ⟨rfl, b8⟩
  rw [show smC 1 1 [] [] [] [] = true from rfl]
  go_wp2_with fail
  go_ret
  exact ⟨rfl, ab_trans hw5 (ab_trans b7 b8)⟩
theorem walk {W : World} (v : Value) (l : List Int) (hv : IsZ W v l) :
    Calls Try.prog 7 #[v] W fun e w' => e = .returned (.bool true) ∧ Below W.heap.size W w' := none_walk v l W hv.1
theorem own : ownKnob Try.prog.godebug = none := by kernel_rfl
theorem laidOut : laidOutB Try.prog = true := by kernel_rfl

set_option maxRecDepth 100000 in
theorem lifted (os : Os) (started : os.Started) (H : Type) (enc : TypeId × Value → H) :
    ReturnsInHanded {} Try.checked os 7 .any (Rows.tenureNoneSpec.pre6 enc Try.prog Try.f7 Rows.tenureNoneRow.domain false) (Rows.tenureNoneSpec.post enc Try.prog Try.f7 false true false false) := by
  refine returnsInHanded_of_change_sized (C := Try.checked) own started (by kernel_rfl) Try.func7
    (ChangeSpec.witness6 (enc := enc) (C := Try.checked) false ⟨#[], #[.slice none 0 0], []⟩ 8 (by kernel_rfl) (by kernel_rfl) (by kernel_rfl) (by kernel_rfl)) ?_
  intro W base args ds gs before hval0 hW hcnd hsz _
  have hval : ∀ (j : Nat) t v, Try.f7.params[j]? = some t → args[j]? = some v → Value.okWide Try.prog W .any base t v := hval0
  have hW' := hW
  obtain ⟨p, q, hA0, hV, rfl, hfz, hnd⟩ := hW
  have hA : DataW.TrodAll enc Try.prog W 0 (fun _ => true) true Try.f7.params.toList args.toList ds p := hA0
  rw [Try.params7] at hA hval
  obtain ⟨v0, vs0, d0, ds0, p0, q0, hargs, rfl, rfl, h0, r0⟩ := trodAll_cons hA
  obtain ⟨rfl, rfl, rfl⟩ := trodAll_nil r0
  obtain rfl : args = #[v0] := by cases args; simp_all
  obtain ⟨rfl, rfl⟩ := trodVars_none hV
  have k0 := h0
  have lt0 : ∀ x ∈ p0, x.block < W.heap.size := by obtain ⟨m, hm⟩ := k0; exact DataW.trod_lt m _ _ _ hm
  obtain ⟨l0_, Z0_⟩ := open_numsZ (hval 0 27 v0 rfl rfl) h0 (fun n hn => by simpa using List.all_eq_true.1 hsz n (DataW.weights_mem_each (j := 0) (t := 27) (by kernel_rfl) rfl n hn))
  clear hA0 hval0
  refine (walk v0 l0_ Z0_).mono fun e W' ⟨he, bel⟩ => ?_
  subst he
  exact ⟨_, rfl, _, _, _, [], _, [], hW', trodAll_mk1 (shut_bool Try.underlying4 _), (trodAll_cons_mk (Below.trod laidOut (by kernel_rfl) (of_decide_eq_true (by kernel_rfl)) k0 bel lt0) trodAll_mk0), rfl, bel.frame _, fun h => by cases h⟩

theorem over : Rows.tenureNoneRow.holds Try.pinned (OpenSpec.ofChange Rows.tenureNoneSpec) :=
  OpenClaim.holds_of_wide 7 Try.f7 rfl rfl rfl rfl rfl rfl rfl ⟨rfl, rfl, rfl, rfl, rfl⟩ rfl rfl rfl rfl rfl (by kernel_rfl) Try.func7 (by kernel_rfl)
    (of_decide_eq_true (by kernel_rfl)) (by unfold Func.isWrapper; first | (rw [if_pos (by decide +kernel)]; kernel_rfl) | (rw [if_neg (by decide +kernel)]; exact ⟨rfl, rfl⟩))
    (fun os started H enc _ => lifted os started H enc)

theorem proved : Rows.TenureNoneSaid := over
end Go.Proofs.Ytddpdmolknfjaaa.tenureNone
namespace Go.Proofs.Ytddpdmolknfjaaa
theorem tenureNone_holds : Rows.TenureNoneSaid := tenureNone.proved
#print axioms tenureNone_holds
end Go.Proofs.Ytddpdmolknfjaaa
