/-
  Which notes are the same: estuarylaw05.NoteSames returns true for every input; no condition.
-/
import Derived.Test.YtjbhicjnnghjjaaPk15
import Derived.Test.YtjbhicjnnghjjaaPk16
import Derived.ProofKit
import Derived.OpenShut
import Derived.ChangeOld
import Derived.Below
import Derived.Lib.SmallJoins
namespace Go.Proofs.Ytjbhicjnnghjjaa.noteSames
open Go.ChangeShapes Go.WideShapes Go.ChangeAt Go.RowKit Go.Joins
set_option linter.unusedVariables false

set_option maxHeartbeats 20000000 in
set_option maxRecDepth 100000 in
theorem walk {W : World} (A : Nt) (vn vo ve : Value) (hI : Is W vn A.ns) (hO : SR 5 k64 W vo A.os) (hE : SR 76 ek W ve A.es) (hN : WN A) (hL : LenN A) (B : Nt) (un uo ue : Value) (gI : Is W un B.ns) (gO : SR 5 k64 W uo B.os) (gE : SR 76 ek W ue B.es) (gN : WN B) (gL : LenN B) :
    Calls Try.prog 6 #[ntV A vn vo ve, ntV B un uo ue] W fun e w' => e = .returned (.bool true) ∧ Below W.heap.size W w' := by
  have hA := ab_alloc (ab_alloc (Below.refl W.heap.size W) (.cells #[.int .i64 A.k, .int .i64 A.f, .int .i64 A.t, vn, vo, ve] 26)) (.cells #[.int .i64 B.k, .int .i64 B.f, .int .i64 B.t, un, uo, ue] 26)
  have hP := (Blk.new W #[.int .i64 A.k, .int .i64 A.f, .int .i64 A.t, vn, vo, ve] 26).alloc (.cells #[.int .i64 B.k, .int .i64 B.f, .int .i64 B.t, un, uo, ue] 26)
  have hR := Blk.new (W.alloc (.cells #[.int .i64 A.k, .int .i64 A.f, .int .i64 A.t, vn, vo, ve] 26)) #[.int .i64 B.k, .int .i64 B.f, .int .i64 B.t, un, uo, ue] 26
  rw [show (W.alloc (.cells #[.int .i64 A.k, .int .i64 A.f, .int .i64 A.t, vn, vo, ve] 26)).heap.size = W.heap.size + 1 by simp] at hR
  have i1 := hI.keep hA
  have i2 := hO.keep hA
  have i3 := hE.keep hA
  have j1 := gI.keep hA
  have j2 := gO.keep hA
  have j3 := gE.keep hA
  go_enter Try.func6, Try.ntmps6
  go_upto_region 1 with fail
  clear hI hO hE gI gO gE
  generalize (W.alloc (.cells #[.int .i64 A.k, .int .i64 A.f, .int .i64 A.t, vn, vo, ve] 26)).alloc (.cells #[.int .i64 B.k, .int .i64 B.f, .int .i64 B.t, un, uo, ue] 26) = V at *
  have DP : ∀ W', Below V.heap.size V W' → Six W' W.heap.size (.int .i64 A.k) (.int .i64 A.f) (.int .i64 A.t) vn vo ve := fun W' hb => six (hP.keep hb)
  have DR : ∀ W', Below V.heap.size V W' → Six W' (W.heap.size + 1) (.int .i64 B.k) (.int .i64 B.f) (.int .i64 B.t) un uo ue := fun W' hb => six (hR.keep hb)
  clear hP hR
  generalize W.heap.size + 1 = B2 at *
  refine wp_region_held_drew (S := fun w' => Below V.heap.size V w') (by kernel_rfl) (ab_drew (Below.refl _ _)) (fun hHeld => ?_)
  refine wpAnyH_ready (rs := [0]) (by kernel_rfl) (by simp) (AllReadyH.cons rfl (fun K hK => ?_) AllReadyH.nil)
  go_simp
  refine (alive5_any _).mono ?_
  rintro e V1 ⟨rfl, b1⟩
  show K _ _
  refine hK.out _ _ (ab_trans hHeld b1) (fun hHeld => ?_)
  clear hK K b1
  refine takeH (i := 1) (some 6) rfl rfl (by kernel_rfl) (by kernel_rfl) (by kernel_rfl) (fun _ _ _ h => h) (by rfl) (fun w hSw => by (try dsimp only at hSw); go_simp; try rfl) hHeld ?_
  go_frame
  refine takeH (i := 2) (some 7) rfl rfl (by kernel_rfl) (by kernel_rfl) (by kernel_rfl) (fun _ _ _ h => h) (by rfl) (fun w hSw => by (try dsimp only at hSw); (obtain ⟨p0, p1, p2, p3, p4, p5, -, -, -, -, -, -⟩ := DP _ hSw; go_simp; try rfl)) hHeld ?_
  go_frame
  refine takeH (i := 3) (some 8) rfl rfl (by kernel_rfl) (by kernel_rfl) (by kernel_rfl) (fun _ _ _ h => h) (by rfl) (fun w hSw => by (try dsimp only at hSw); (obtain ⟨p0, p1, p2, p3, p4, p5, -, -, -, -, -, -⟩ := DR _ hSw; go_simp; try rfl)) hHeld ?_
  go_frame
  refine takeH (i := 5) (some 10) rfl rfl (by kernel_rfl) (by kernel_rfl) (by kernel_rfl) (fun _ _ _ h => h) (by rfl) (fun w hSw => by (try dsimp only at hSw); (obtain ⟨p0, p1, p2, p3, p4, p5, -, -, -, -, -, -⟩ := DP _ hSw; go_simp; try rfl)) hHeld ?_
  go_frame
  refine takeH (i := 6) (some 11) rfl rfl (by kernel_rfl) (by kernel_rfl) (by kernel_rfl) (fun _ _ _ h => h) (by rfl) (fun w hSw => by (try dsimp only at hSw); (obtain ⟨p0, p1, p2, p3, p4, p5, -, -, -, -, -, -⟩ := DR _ hSw; go_simp; try rfl)) hHeld ?_
  go_frame
  refine wpAnyH_ready (rs := [4]) (by kernel_rfl) (by simp) (AllReadyH.cons rfl (fun K hK => ?_) AllReadyH.nil)
  go_simp
  refine (nsame_any A B _ _ _ _ _ _ _ (i1.keep hHeld) (i2.keep hHeld) (i3.keep hHeld) (j1.keep hHeld) (j2.keep hHeld) (j3.keep hHeld)).mono ?_
  rintro e V2 ⟨⟨z1, rfl, hz1⟩, b2⟩
  show K _ _
  refine hK.out _ _ (ab_trans hHeld b2) (fun hHeld => ?_)
  clear hK K b2
  refine wpAnyH_ready (rs := [7]) (by kernel_rfl) (by simp) (AllReadyH.cons rfl (fun K hK => ?_) AllReadyH.nil)
  go_simp
  refine (rsame_any A B _ _ _ _ _ _ _ (i1.keep hHeld) (i2.keep hHeld) (i3.keep hHeld) (j1.keep hHeld) (j2.keep hHeld) (j3.keep hHeld)).mono ?_
  rintro e V3 ⟨⟨z2, rfl, hz2⟩, b3⟩
  show K _ _
  obtain rfl : z2 = z1 := by
    have hzz := hz2.trans hz1.symm
    cases z1 <;> cases z2 <;> simp_all
  clear hz1 hz2
  refine hK.out _ _ (ab_trans hHeld b3) (fun hHeld => ?_)
  clear hK K b3
  refine takeH (i := 8) (some 13) rfl rfl (by kernel_rfl) (by kernel_rfl) (by kernel_rfl) (fun _ _ _ h => h) (by rfl) (fun w hSw => by (try dsimp only at hSw); go_simp; try rfl) hHeld ?_
  go_frame
  refine takeH (i := 9) (some 14) rfl rfl (by kernel_rfl) (by kernel_rfl) (by kernel_rfl) (fun _ _ _ h => h) (by rfl) (fun w hSw => by (try dsimp only at hSw); go_simp; try rfl) hHeld ?_
  go_frame
  refine takeH (i := 10) (some 15) rfl rfl (by kernel_rfl) (by kernel_rfl) (by kernel_rfl) (fun _ _ _ h => h) (by rfl) (fun w hSw => by (try dsimp only at hSw); go_simp; try rfl) hHeld ?_
  go_frame
  refine takeH (i := 11) (some 16) rfl rfl (by kernel_rfl) (by kernel_rfl) (by kernel_rfl) (fun _ _ _ h => h) (by rfl) (fun w hSw => by (try dsimp only at hSw); (obtain ⟨p0, p1, p2, p3, p4, p5, -, -, -, -, -, -⟩ := DP _ hSw; go_simp; try rfl)) hHeld ?_
  go_frame
  refine takeH (i := 12) (some 17) rfl rfl (by kernel_rfl) (by kernel_rfl) (by kernel_rfl) (fun _ _ _ h => h) (by rfl) (fun w hSw => by (try dsimp only at hSw); (obtain ⟨p0, p1, p2, p3, p4, p5, -, -, -, -, -, -⟩ := DP _ hSw; go_simp; try rfl)) hHeld ?_
  go_frame
  refine wpAnyH_ready (rs := [13]) (by kernel_rfl) (by simp) (AllReadyH.cons rfl (fun K hK => ?_) AllReadyH.nil)
  go_simp
  refine (copied_any A _ _ _ _ (i1.keep hHeld) (i2.keep hHeld) (i3.keep hHeld) hL).mono ?_
  rintro e V4 ⟨xn, xo, xe, rfl, cn, so, se, b4⟩
  show K _ _
  refine hK.out _ _ (ab_trans hHeld b4) (fun hHeld => ?_)
  clear hK K b4
  refine wpAnyH_ready (rs := [14]) (by kernel_rfl) (by simp) (AllReadyH.cons rfl (fun K hK => ?_) AllReadyH.nil)
  go_simp
  refine (nsame_any A A _ _ _ _ _ _ _ (i1.keep hHeld) (i2.keep hHeld) (i3.keep hHeld) cn.is (so.sr (by omega)) (se.sr (by omega))).mono ?_
  rintro e V5 ⟨hz, b5⟩
  obtain rfl := biff_true hz (SameN.refl A)
  show K _ _
  refine hK.out _ _ (ab_trans hHeld b5) (fun hHeld => ?_)
  clear hK K b5
  refine takeH (i := 15) (some 20) rfl rfl (by kernel_rfl) (by kernel_rfl) (by kernel_rfl) (fun _ _ _ h => h) (by rfl) (fun w hSw => by (try dsimp only at hSw); go_simp; try rfl) hHeld ?_
  go_frame
  refine takeH (i := 16) (some 4) rfl rfl (by kernel_rfl) (by kernel_rfl) (by kernel_rfl) (fun _ _ _ h => h) (by rfl) (fun w hSw => by (try dsimp only at hSw); go_simp; try rfl) hHeld ?_
  go_frame
  refine wpAnyH_done (by kernel_rfl) ?_ _
  go_wp2_with fail
  go_ret
  exact ⟨rfl, ab_trans hA hHeld⟩

theorem own : ownKnob Try.prog.godebug = none := by kernel_rfl
theorem laidOut : laidOutB Try.prog = true := by kernel_rfl

set_option maxRecDepth 100000 in
theorem lifted (os : Os) (started : os.Started) (H : Type) (enc : TypeId × Value → H) :
    ReturnsInHanded {} Try.checked os 6 .any (Rows.noteSamesSpec.pre6 enc Try.prog Try.f6 Rows.noteSamesRow.domain false) (Rows.noteSamesSpec.post enc Try.prog Try.f6 false true false false) := by
  refine returnsInHanded_of_change_sized (C := Try.checked) own started (by kernel_rfl) Try.func6
    (ChangeSpec.witness6 (enc := enc) (C := Try.checked) false ⟨#[], #[.agg #[.int .i64 0, .int .i64 0, .int .i64 0, .slice none 0 0, .slice none 0 0, .slice none 0 0], .agg #[.int .i64 0, .int .i64 0, .int .i64 0, .slice none 0 0, .slice none 0 0, .slice none 0 0]], []⟩ 8 (by kernel_rfl) (by kernel_rfl) (by kernel_rfl) (by kernel_rfl)) ?_
  intro W base args ds gs before hval0 hW hcnd hsz _
  have hval : ∀ (j : Nat) t v, Try.f6.params[j]? = some t → args[j]? = some v → Value.okWide Try.prog W .any base t v := hval0
  have hW' := hW
  obtain ⟨p, q, hA0, hV, rfl, hfz, hnd⟩ := hW
  have hA : DataW.TrodAll enc Try.prog W 0 (fun _ => true) true Try.f6.params.toList args.toList ds p := hA0
  rw [Try.params6] at hA hval
  obtain ⟨v0, vs0, d0, ds0, p0, q0, hargs, rfl, rfl, h0, r0⟩ := trodAll_cons hA
  obtain ⟨v1, vs1, d1, ds1, p1, q1, rfl, rfl, rfl, h1, r1⟩ := trodAll_cons r0
  obtain ⟨rfl, rfl, rfl⟩ := trodAll_nil r1
  obtain rfl : args = #[v0, v1] := by cases args; simp_all
  obtain ⟨rfl, rfl⟩ := trodVars_none hV
  have k0 := h0
  have lt0 : ∀ x ∈ p0, x.block < W.heap.size := by obtain ⟨m, hm⟩ := k0; exact DataW.trod_lt m _ _ _ hm
  have k1 := h1
  have lt1 : ∀ x ∈ p1, x.block < W.heap.size := by obtain ⟨m, hm⟩ := k1; exact DataW.trod_lt m _ _ _ hm
  obtain ⟨N0, vn0, vo0, ve0, rfl, hI0, hO0, hE0, hN0, hL0⟩ := open_note (hval 0 26 v0 rfl rfl) h0 (fun n hn => by simpa using List.all_eq_true.1 hsz n (DataW.weights_mem_each (j := 0) (t := 26) (by kernel_rfl) rfl n hn))
  obtain ⟨N1, vn1, vo1, ve1, rfl, hI1, hO1, hE1, hN1, hL1⟩ := open_note (hval 1 26 v1 rfl rfl) h1 (fun n hn => by simpa using List.all_eq_true.1 hsz n (DataW.weights_mem_each (j := 1) (t := 26) (by kernel_rfl) rfl n hn))
  clear hA0 hval0
  refine (walk N0 vn0 vo0 ve0 hI0 hO0 hE0 hN0 hL0 N1 vn1 vo1 ve1 hI1 hO1 hE1 hN1 hL1).mono fun e W' ⟨he, bel⟩ => ?_
  subst he
  exact ⟨_, rfl, _, _, _, [], _, [], hW', trodAll_mk1 (shut_bool Try.underlying4 _), (trodAll_cons_mk (Below.trod laidOut (by kernel_rfl) (of_decide_eq_true (by kernel_rfl)) k0 bel lt0) (trodAll_cons_mk (Below.trod laidOut (by kernel_rfl) (of_decide_eq_true (by kernel_rfl)) k1 bel lt1) trodAll_mk0)), rfl, bel.frame _, fun h => by cases h⟩

theorem over : Rows.noteSamesRow.holds Try.pinned (OpenSpec.ofChange Rows.noteSamesSpec) :=
  OpenClaim.holds_of_wide 6 Try.f6 rfl rfl rfl rfl rfl rfl rfl ⟨rfl, rfl, rfl, rfl, rfl⟩ rfl rfl rfl rfl rfl (by kernel_rfl) Try.func6 (by kernel_rfl)
    (of_decide_eq_true (by kernel_rfl)) (by unfold Func.isWrapper; first | (rw [if_pos (by decide +kernel)]; kernel_rfl) | (rw [if_neg (by decide +kernel)]; exact ⟨rfl, rfl⟩))
    (fun os started H enc _ => lifted os started H enc)

theorem proved : Rows.NoteSamesSaid := over
end Go.Proofs.Ytjbhicjnnghjjaa.noteSames
namespace Go.Proofs.Ytjbhicjnnghjjaa
theorem noteSames_holds : Rows.NoteSamesSaid := noteSames.proved
#print axioms noteSames_holds
end Go.Proofs.Ytjbhicjnnghjjaa
