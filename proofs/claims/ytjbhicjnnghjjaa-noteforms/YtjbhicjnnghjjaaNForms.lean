/-
  Which notes are in form, and what bytes they have: estuarylaw05.NoteForms returns true for every input; no condition.
-/
import Derived.Test.YtjbhicjnnghjjaaPk15
import Derived.Test.YtjbhicjnnghjjaaPk16
import Derived.Test.YtjbhicjnnghjjaaPk18
import Derived.ProofKit
import Derived.OpenShut
import Derived.ChangeOld
import Derived.Below
import Derived.Lib.SmallJoins
namespace Go.Proofs.Ytjbhicjnnghjjaa.noteForms
open Go.ChangeShapes Go.WideShapes Go.ChangeAt Go.RowKit Go.Joins
set_option linter.unusedVariables false

set_option maxHeartbeats 20000000 in
set_option maxRecDepth 100000 in
theorem walk {W : World} (N : Nt) (vn vo ve : Value) (hI : Is W vn N.ns) (hO : SR 5 k64 W vo N.os) (hE : SR 76 ek W ve N.es) (hN : WN N) (hL : LenN N) :
    Calls Try.prog 3 #[ntV N vn vo ve] W fun e w' => e = .returned (.bool true) ∧ Below W.heap.size W w' := by
  go_enter Try.func3, Try.ntmps3
  go_upto_region 1 with fail
  have hB := Blk.new W #[.int .i64 N.k, .int .i64 N.f, .int .i64 N.t, vn, vo, ve] 26
  have hA := ab_alloc (Below.refl W.heap.size W) (.cells #[.int .i64 N.k, .int .i64 N.f, .int .i64 N.t, vn, vo, ve] 26)
  generalize W.alloc (.cells #[.int .i64 N.k, .int .i64 N.f, .int .i64 N.t, vn, vo, ve] 26) = A at *
  have DP : Hid (∀ V, Below A.heap.size A V → Six V W.heap.size (.int .i64 N.k) (.int .i64 N.f) (.int .i64 N.t) vn vo ve) := fun V hb => six (hB.keep hb)
  have k1 := hI.keep hA
  have k2 := hO.keep hA
  have k3 := hE.keep hA
  clear hB hI hO hE
  go_upto_region 3 with (go_at_call 9; refine (alive5_any _).mono ?_; rintro e V1 ⟨rfl, b1⟩)
  obtain ⟨p0, p1, p2, p3, p4, p5, -, -, -, -, -, -⟩ := DP.out V1 b1
  go_wp2_with fail
  refine (large5_any N vn vo ve _ (k1.keep b1) (k2.keep b1) (k3.keep b1) hL).mono ?_
  rintro e V2 ⟨⟨z, rfl, hz⟩, b2⟩
  have bb2 := ab_trans b1 b2
  clear p0 p1 p2 p3 p4 p5 b1 b2
  cases z with
  | true =>
    go_wp2_with fail
    go_ret
    exact ⟨rfl, ab_trans hA bb2⟩
  | false =>
    have h500 := hz rfl
    clear hz
    obtain ⟨p0, p1, p2, p3, p4, p5, -, -, -, -, -, -⟩ := DP.out V2 bb2
    go_upto_region 6 with (go_at_call 11; refine (copied_any N vn vo ve _ (k1.keep bb2) (k2.keep bb2) (k3.keep bb2) hL).mono ?_; rintro e V3 ⟨un, uo, ue, rfl, cn, so, se, b3⟩; obtain ⟨gU, cU, eU, hio⟩ := id cn; subst eU; obtain ⟨q6, c6, e6⟩ := so.form (by omega); subst e6; obtain ⟨q7, c7, e7⟩ := se.form (by omega); subst e7)
    have hA3 := ab_alloc (Below.refl V3.heap.size V3) (.cells #[.int .i64 N.k, .int .i64 N.f, .int .i64 N.t, .slice (some ⟨gU, 0, none⟩) N.ns.length cU, .slice q6 N.os.length c6, .slice q7 N.es.length c7] 26)
    have hB3 := Blk.new V3 #[.int .i64 N.k, .int .i64 N.f, .int .i64 N.t, .slice (some ⟨gU, 0, none⟩) N.ns.length cU, .slice q6 N.os.length c6, .slice q7 N.es.length c7] 26
    have cn4 := cn.keep hA3
    have m1 := cn4.is
    have m2 := (so.sr (by omega)).keep hA3
    have m3 := (se.sr (by omega)).keep hA3
    have hgU : gU < V3.heap.size := (World.ownsRow.lt hio gU rfl).2
    have bb4 := ab_trans (ab_trans bb2 b3) hA3
    obtain ⟨-, gX, cX, eX, hcX, hmk⟩ := cn4.open
    cases eX
    have hgU4 := Nat.lt_of_lt_of_le hgU hA3.size
    clear p0 p1 p2 p3 p4 p5 bb2 b3 cn so se hio hA3 cn4 hgU
    generalize V3.alloc (.cells #[.int .i64 N.k, .int .i64 N.f, .int .i64 N.t, .slice (some ⟨gU, 0, none⟩) N.ns.length cU, .slice q6 N.os.length c6, .slice q7 N.es.length c7] 26) = V4 at *
    generalize V3.heap.size = B3 at *
    have DM : Hid (∀ V, Below V4.heap.size V4 V → Six V B3 (.int .i64 N.k) (.int .i64 N.f) (.int .i64 N.t) (.slice (some ⟨gU, 0, none⟩) N.ns.length cU) (.slice q6 N.os.length c6) (.slice q7 N.es.length c7)) := fun V hb => six (hB3.keep hb)
    have DQ : Hid (∀ V, Below V4.heap.size V4 V → Six V W.heap.size (.int .i64 N.k) (.int .i64 N.f) (.int .i64 N.t) vn vo ve) := fun V hb => DP.out V (ab_trans bb4 hb)
    have k41 := k1.keep bb4
    have k42 := k2.keep bb4
    have k43 := k3.keep bb4
    have hw4 := ab_trans hA bb4
    have MK : Hid (∀ V, Below V4.heap.size V4 V → V.cell? ⟨gU, N.ns.length, none⟩ = some (.int .i64 (-77))) := fun V hb => (hb.cell (p := ⟨gU, N.ns.length, none⟩) hgU4).trans hmk
    have HI1 : Hid (Is V4 (.slice (some ⟨gU, 0, none⟩) N.ns.length cU) N.ns) := m1
    have HI2 : Hid (SR 5 k64 V4 (.slice q6 N.os.length c6) N.os) := m2
    have HI3 : Hid (SR 76 ek V4 (.slice q7 N.es.length c7) N.es) := m3
    have HWr : Hid (IntKind.i64.wrap ((N.ns.length : Int) + 1) = (N.ns.length : Int) + 1) := by show _ = _; simp [IntKind.wrap, IntKind.signed, IntKind.bits] <;> omega
    have h5n : N.ns.length ≤ 500 := by omega
    clear hB3 DP k1 k2 k3 hmk hgU4 m1 m2 m3 bb4 hA hL h500
    generalize hn : N.ns.length = n at *
    generalize hno : N.os.length = no at *
    generalize hne : N.es.length = ne at *
    obtain ⟨r0, r1, r2, r3, r4, r5, -, -, -, -, -, -⟩ := DM.out V4 (Below.refl _ _)
    by_cases g : GoodN N
    · go_upto_region 7 with (go_at_call 12; refine (encode_ok N _ _ _ _ HI1.out HI2.out HI3.out hN g).mono ?_; rintro e V5 ⟨v5, rfl, O5, b5⟩)
      have bb5 := b5
      clear r0 r1 r2 r3 r4 r5
      obtain ⟨p0, p1, p2, p3, p4, p5, -, -, -, -, -, -⟩ := DQ.out V5 bb5
      go_upto_region 8 with (go_at_call 13; refine (rencode_ok N vn vo ve _ (k41.keep bb5) (k42.keep bb5) (k43.keep bb5) hN g).mono ?_; rintro e V6 ⟨v6, rfl, O6, b6⟩)
      have bb6 := ab_trans bb5 b6
      have sB := O5.sl.keep b6
      have sW := O6.sl
      clear O5 O6
      clear p0 p1 p2 p3 p4 p5 b5 bb5
      refine wp_region_held_drew (S := fun w' => Below V6.heap.size V6 w') (by kernel_rfl) (ab_drew (Below.refl _ _)) (fun hHeld => ?_)
      refine takeH (i := 0) (some 24) rfl rfl (by kernel_rfl) (by kernel_rfl) (by kernel_rfl) (fun _ _ _ h => h) (by rfl) (fun w hSw => by (try dsimp only at hSw); go_simp; try rfl) hHeld ?_
      go_frame
      refine takeH (i := 1) (some 25) rfl rfl (by kernel_rfl) (by kernel_rfl) (by kernel_rfl) (fun _ _ _ h => h) (by rfl) (fun w hSw => by (try dsimp only at hSw); (have hcc := sl_str (sB.keep hSw); go_simp; try rfl)) hHeld ?_
      go_frame
      refine takeH (i := 2) (some 26) rfl rfl (by kernel_rfl) (by kernel_rfl) (by kernel_rfl) (fun _ _ _ h => h) (by rfl) (fun w hSw => by (try dsimp only at hSw); go_simp; try rfl) hHeld ?_
      go_frame
      refine takeH (i := 3) (some 27) rfl rfl (by kernel_rfl) (by kernel_rfl) (by kernel_rfl) (fun _ _ _ h => h) (by rfl) (fun w hSw => by (try dsimp only at hSw); (have hcc := sl_str (sW.keep hSw); go_simp; try rfl)) hHeld ?_
      go_frame
      refine takeH (i := 4) (some 28) rfl rfl (by kernel_rfl) (by kernel_rfl) (by kernel_rfl) (fun _ _ _ h => h) (by rfl) (fun w hSw => by (try dsimp only at hSw); go_simp; try rfl) hHeld ?_
      go_frame
      refine takeH (i := 5) (some 29) rfl rfl (by kernel_rfl) (by kernel_rfl) (by kernel_rfl) (fun _ _ _ h => h) (by rfl) (fun w hSw => by (try dsimp only at hSw); go_simp; try rfl) hHeld ?_
      go_frame
      refine takeH (i := 6) (some 30) rfl rfl (by kernel_rfl) (by kernel_rfl) (by kernel_rfl) (fun _ _ _ h => h) (by rfl) (fun w hSw => by (try dsimp only at hSw); go_simp; try rfl) hHeld ?_
      go_frame
      refine takeH (i := 8) (some 32) rfl rfl (by kernel_rfl) (by kernel_rfl) (by kernel_rfl) (fun _ _ _ h => h) (by rfl) (fun w hSw => by (try dsimp only at hSw); go_simp; try rfl) hHeld ?_
      go_frame
      refine wpAnyH_ready (rs := [7]) (by kernel_rfl) (by simp) (AllReadyH.cons rfl (fun K hK => ?_) AllReadyH.nil)
      go_simp
      refine (num_nil _).mono ?_
      rintro e V7 ⟨rfl, rfl⟩
      show K _ _
      refine hK.out _ _ hHeld (fun hHeld => ?_)
      clear hK K
      refine takeH (i := 9) (some 33) rfl rfl (by kernel_rfl) (by kernel_rfl) (by kernel_rfl) (fun _ _ _ h => h) (by rfl) (fun w hSw => by (try dsimp only at hSw); go_simp; try rfl) hHeld ?_
      go_frame
      refine takeH (i := 10) (some 34) rfl rfl (by kernel_rfl) (by kernel_rfl) (by kernel_rfl) (fun _ _ _ h => h) (by rfl) (fun w hSw => by (try dsimp only at hSw); go_simp; try rfl) hHeld ?_
      go_frame
      refine takeH (i := 11) (some 35) rfl rfl (by kernel_rfl) (by kernel_rfl) (by kernel_rfl) (fun _ _ _ h => h) (by rfl) (fun w hSw => by (try dsimp only at hSw); go_simp; try rfl) hHeld ?_
      go_frame
      refine takeH (i := 12) (some 36) rfl rfl (by kernel_rfl) (by kernel_rfl) (by kernel_rfl) (fun _ _ _ h => h) (by rfl) (fun w hSw => by (try dsimp only at hSw); (obtain ⟨p0, p1, p2, p3, p4, p5, -, -, -, -, -, -⟩ := DM.out _ (ab_trans bb6 hSw); go_simp; try rfl)) hHeld ?_
      go_frame
      refine takeH (i := 15) (some 39) rfl rfl (by kernel_rfl) (by kernel_rfl) (by kernel_rfl) (fun _ _ _ h => h) (by rfl) (fun w hSw => by (try dsimp only at hSw); (obtain ⟨p0, p1, p2, p3, p4, p5, -, -, -, -, -, -⟩ := DQ.out _ (ab_trans bb6 hSw); go_simp; try rfl)) hHeld ?_
      go_frame
      refine wpAnyH_ready (rs := [13]) (by kernel_rfl) (by simp) (AllReadyH.cons rfl (fun K hK => ?_) AllReadyH.nil)
      go_simp
      refine (check_any N _ _ _ _ (HI1.out.keep (ab_trans bb6 hHeld)) (HI2.out.keep (ab_trans bb6 hHeld)) (HI3.out.keep (ab_trans bb6 hHeld))).mono ?_
      rintro e V8 ⟨hck, b8⟩
      obtain rfl := hck.1 g
      show K _ _
      refine hK.out _ _ (ab_trans hHeld b8) (fun hHeld => ?_)
      clear hK K b8 hck
      refine takeH (i := 14) (some 38) rfl rfl (by kernel_rfl) (by kernel_rfl) (by kernel_rfl) (fun _ _ _ h => h) (by rfl) (fun w hSw => by (try dsimp only at hSw); (have hee := eq00; go_simp; try rfl)) hHeld ?_
      go_frame
      refine wpAnyH_ready (rs := [16]) (by kernel_rfl) (by simp) (AllReadyH.cons rfl (fun K hK => ?_) AllReadyH.nil)
      go_simp
      refine (good_any N _ _ _ _ (k41.keep (ab_trans bb6 hHeld)) (k42.keep (ab_trans bb6 hHeld)) (k43.keep (ab_trans bb6 hHeld))).mono ?_
      rintro e V9 ⟨hgd, b9⟩
      obtain rfl := biff_true hgd g
      show K _ _
      refine hK.out _ _ (ab_trans hHeld b9) (fun hHeld => ?_)
      clear hK K b9 hgd
      refine takeH (i := 17) (some 41) rfl rfl (by kernel_rfl) (by kernel_rfl) (by kernel_rfl) (fun _ _ _ h => h) (by rfl) (fun w hSw => by (try dsimp only at hSw); go_simp; try rfl) hHeld ?_
      go_frame
      refine takeH (i := 18) (some 42) rfl rfl (by kernel_rfl) (by kernel_rfl) (by kernel_rfl) (fun _ _ _ h => h) (by rfl) (fun w hSw => by (try dsimp only at hSw); go_simp; try rfl) hHeld ?_
      go_frame
      refine takeH (i := 19) (some 43) rfl rfl (by kernel_rfl) (by kernel_rfl) (by kernel_rfl) (fun _ _ _ h => h) (by rfl) (fun w hSw => by (try dsimp only at hSw); go_simp; try rfl) hHeld ?_
      go_frame
      refine takeH (i := 20) (some 44) rfl rfl (by kernel_rfl) (by kernel_rfl) (by kernel_rfl) (fun _ _ _ h => h) (by rfl) (fun w hSw => by (try dsimp only at hSw); (obtain ⟨p0, p1, p2, p3, p4, p5, -, -, -, -, -, -⟩ := DM.out _ (ab_trans bb6 hSw); go_simp; try rfl)) hHeld ?_
      go_frame
      refine takeH (i := 21) (some 45) rfl rfl (by kernel_rfl) (by kernel_rfl) (by kernel_rfl) (fun _ _ _ h => h) (by rfl) (fun w hSw => by (try dsimp only at hSw); (obtain ⟨p0, p1, p2, p3, p4, p5, -, -, -, -, -, -⟩ := DQ.out _ (ab_trans bb6 hSw); go_simp; try rfl)) hHeld ?_
      go_frame
      refine wpAnyH_ready (rs := [22]) (by kernel_rfl) (by simp) (AllReadyH.cons rfl (fun K hK => ?_) AllReadyH.nil)
      go_simp
      refine (rsame_any N N _ _ _ _ _ _ _ (HI1.out.keep (ab_trans bb6 hHeld)) (HI2.out.keep (ab_trans bb6 hHeld)) (HI3.out.keep (ab_trans bb6 hHeld)) (k41.keep (ab_trans bb6 hHeld)) (k42.keep (ab_trans bb6 hHeld)) (k43.keep (ab_trans bb6 hHeld))).mono ?_
      rintro e VA ⟨hsm, bA⟩
      obtain rfl := biff_true hsm (SameN.refl N)
      show K _ _
      refine hK.out _ _ (ab_trans hHeld bA) (fun hHeld => ?_)
      clear hK K bA hsm
      refine takeH (i := 23) (some 47) rfl rfl (by kernel_rfl) (by kernel_rfl) (by kernel_rfl) (fun _ _ _ h => h) (by rfl) (fun w hSw => by (try dsimp only at hSw); go_simp; try rfl) hHeld ?_
      go_frame
      refine takeH (i := 24) (some 48) rfl rfl (by kernel_rfl) (by kernel_rfl) (by kernel_rfl) (fun _ _ _ h => h) (by rfl) (fun w hSw => by (try dsimp only at hSw); go_simp; try rfl) hHeld ?_
      go_frame
      refine takeH (i := 25) (some 49) rfl rfl (by kernel_rfl) (by kernel_rfl) (by kernel_rfl) (fun _ _ _ h => h) (by rfl) (fun w hSw => by (try dsimp only at hSw); go_simp; try rfl) hHeld ?_
      go_frame
      refine takeH (i := 26) (some 50) rfl rfl (by kernel_rfl) (by kernel_rfl) (by kernel_rfl) (fun _ _ _ h => h) (by rfl) (fun w hSw => by (try dsimp only at hSw); (have hr := (DM.out _ (ab_trans bb6 hSw)).c3; go_simp; try rfl)) hHeld ?_
      go_frame
      refine takeH (i := 27) (some 51) rfl rfl (by kernel_rfl) (by kernel_rfl) (by kernel_rfl) (fun _ _ _ h => h) (by rfl) (fun w hSw => by (try dsimp only at hSw); go_simp; try rfl) hHeld ?_
      go_frame
      refine takeH (i := 28) (some 52) rfl rfl (by kernel_rfl) (by kernel_rfl) (by kernel_rfl) (fun _ _ _ h => h) (by rfl) (fun w hSw => by (try dsimp only at hSw); (have hr := (DM.out _ (ab_trans bb6 hSw)).c3; go_simp; try rfl)) hHeld ?_
      go_frame
      refine takeH (i := 29) (some 53) rfl rfl (by kernel_rfl) (by kernel_rfl) (by kernel_rfl) (fun _ _ _ h => h) (by rfl) (fun w hSw => by (try dsimp only at hSw); go_simp; try rfl) hHeld ?_
      go_frame
      refine takeH (i := 30) (some 54) rfl rfl (by kernel_rfl) (by kernel_rfl) (by kernel_rfl) (fun _ _ _ h => h) (by rfl) (fun w hSw => by (try dsimp only at hSw); (have hr := HWr.out; go_simp; try rfl)) hHeld ?_
      go_frame
      refine takeH (i := 31) (some 55) rfl rfl (by kernel_rfl) (by kernel_rfl) (by kernel_rfl) (fun _ _ _ h => h) (by rfl) (fun w hSw => by (try dsimp only at hSw); exact sli_h_run rfl rfl rfl (j := n + 1) (by omega) hcX) hHeld ?_
      go_frame
      rw [sliced_0]
      refine takeH (i := 32) (some 56) rfl rfl (by kernel_rfl) (by kernel_rfl) (by kernel_rfl) (fun _ _ _ h => h) (by rfl) (fun w hSw => by (try dsimp only at hSw); go_simp; try rfl) hHeld ?_
      go_frame
      refine takeH (i := 33) (some 57) rfl rfl (by kernel_rfl) (by kernel_rfl) (by kernel_rfl) (fun _ _ _ h => h) (by rfl) (fun w hSw => by (try dsimp only at hSw); (have hr := (DM.out _ (ab_trans bb6 hSw)).c3; go_simp; try rfl)) hHeld ?_
      go_frame
      refine takeH (i := 34) (some 58) rfl rfl (by kernel_rfl) (by kernel_rfl) (by kernel_rfl) (fun _ _ _ h => h) (by rfl) (fun w hSw => by (try dsimp only at hSw); go_simp; try rfl) hHeld ?_
      go_frame
      refine takeH (i := 35) (some 59) rfl rfl (by kernel_rfl) (by kernel_rfl) (by kernel_rfl) (fun _ _ _ h => h) (by rfl) (fun w hSw => by (try dsimp only at hSw); (go_simp; exact if_pos (by omega))) hHeld ?_
      go_frame
      refine takeH (i := 36) (some 60) rfl rfl (by kernel_rfl) (by kernel_rfl) (by kernel_rfl) (fun _ _ _ h => h) (by rfl) (fun w hSw => by (try dsimp only at hSw); (have hr := MK.out _ (ab_trans bb6 hSw); go_simp; try rfl)) hHeld ?_
      go_frame
      refine takeH (i := 37) (some 61) rfl rfl (by kernel_rfl) (by kernel_rfl) (by kernel_rfl) (fun _ _ _ h => h) (by rfl) (fun w hSw => by (try dsimp only at hSw); go_simp; try rfl) hHeld ?_
      go_frame
      refine takeH (i := 38) (some 62) rfl rfl (by kernel_rfl) (by kernel_rfl) (by kernel_rfl) (fun _ _ _ h => h) (by rfl) (fun w hSw => by (try dsimp only at hSw); go_simp; try rfl) hHeld ?_
      go_frame
      refine takeH (i := 39) (some 2) rfl rfl (by kernel_rfl) (by kernel_rfl) (by kernel_rfl) (fun _ _ _ h => h) (by rfl) (fun w hSw => by (try dsimp only at hSw); go_simp; try rfl) hHeld ?_
      go_frame
      refine wpAnyH_done (by kernel_rfl) ?_ _
      go_wp2_with fail
      go_ret
      exact ⟨rfl, ab_trans hw4 (ab_trans bb6 hHeld)⟩
    · go_upto_region 7 with (go_at_call 12; refine (encode_no N _ _ _ _ HI1.out HI2.out HI3.out g).mono ?_; rintro e V5 ⟨rfl, b5⟩)
      have bb5 := b5
      clear r0 r1 r2 r3 r4 r5
      obtain ⟨p0, p1, p2, p3, p4, p5, -, -, -, -, -, -⟩ := DQ.out V5 bb5
      go_upto_region 8 with (go_at_call 13; refine (rencode_no N vn vo ve _ (k41.keep bb5) (k42.keep bb5) (k43.keep bb5) g).mono ?_; rintro e V6 ⟨rfl, b6⟩)
      have bb6 := ab_trans bb5 b6
      have sB := sl_nil V6
      have sW := sl_nil V6
      clear p0 p1 p2 p3 p4 p5 b5 bb5
      refine wp_region_held_drew (S := fun w' => Below V6.heap.size V6 w') (by kernel_rfl) (ab_drew (Below.refl _ _)) (fun hHeld => ?_)
      refine takeH (i := 0) (some 24) rfl rfl (by kernel_rfl) (by kernel_rfl) (by kernel_rfl) (fun _ _ _ h => h) (by rfl) (fun w hSw => by (try dsimp only at hSw); go_simp; try rfl) hHeld ?_
      go_frame
      refine takeH (i := 1) (some 25) rfl rfl (by kernel_rfl) (by kernel_rfl) (by kernel_rfl) (fun _ _ _ h => h) (by rfl) (fun w hSw => by (try dsimp only at hSw); (have hcc := sl_str (sB.keep hSw); go_simp; try rfl)) hHeld ?_
      go_frame
      refine takeH (i := 2) (some 26) rfl rfl (by kernel_rfl) (by kernel_rfl) (by kernel_rfl) (fun _ _ _ h => h) (by rfl) (fun w hSw => by (try dsimp only at hSw); go_simp; try rfl) hHeld ?_
      go_frame
      refine takeH (i := 3) (some 27) rfl rfl (by kernel_rfl) (by kernel_rfl) (by kernel_rfl) (fun _ _ _ h => h) (by rfl) (fun w hSw => by (try dsimp only at hSw); (have hcc := sl_str (sW.keep hSw); go_simp; try rfl)) hHeld ?_
      go_frame
      refine takeH (i := 4) (some 28) rfl rfl (by kernel_rfl) (by kernel_rfl) (by kernel_rfl) (fun _ _ _ h => h) (by rfl) (fun w hSw => by (try dsimp only at hSw); go_simp; try rfl) hHeld ?_
      go_frame
      refine takeH (i := 5) (some 29) rfl rfl (by kernel_rfl) (by kernel_rfl) (by kernel_rfl) (fun _ _ _ h => h) (by rfl) (fun w hSw => by (try dsimp only at hSw); go_simp; try rfl) hHeld ?_
      go_frame
      refine takeH (i := 6) (some 30) rfl rfl (by kernel_rfl) (by kernel_rfl) (by kernel_rfl) (fun _ _ _ h => h) (by rfl) (fun w hSw => by (try dsimp only at hSw); go_simp; try rfl) hHeld ?_
      go_frame
      refine takeH (i := 8) (some 32) rfl rfl (by kernel_rfl) (by kernel_rfl) (by kernel_rfl) (fun _ _ _ h => h) (by rfl) (fun w hSw => by (try dsimp only at hSw); go_simp; try rfl) hHeld ?_
      go_frame
      refine wpAnyH_ready (rs := [7]) (by kernel_rfl) (by simp) (AllReadyH.cons rfl (fun K hK => ?_) AllReadyH.nil)
      go_simp
      refine (num_err 2 (by decide) _).mono ?_
      rintro e V7 ⟨rfl, rfl⟩
      show K _ _
      refine hK.out _ _ hHeld (fun hHeld => ?_)
      clear hK K
      refine takeH (i := 9) (some 33) rfl rfl (by kernel_rfl) (by kernel_rfl) (by kernel_rfl) (fun _ _ _ h => h) (by rfl) (fun w hSw => by (try dsimp only at hSw); go_simp; try rfl) hHeld ?_
      go_frame
      refine takeH (i := 10) (some 34) rfl rfl (by kernel_rfl) (by kernel_rfl) (by kernel_rfl) (fun _ _ _ h => h) (by rfl) (fun w hSw => by (try dsimp only at hSw); go_simp; try rfl) hHeld ?_
      go_frame
      refine takeH (i := 11) (some 35) rfl rfl (by kernel_rfl) (by kernel_rfl) (by kernel_rfl) (fun _ _ _ h => h) (by rfl) (fun w hSw => by (try dsimp only at hSw); go_simp; try rfl) hHeld ?_
      go_frame
      refine takeH (i := 12) (some 36) rfl rfl (by kernel_rfl) (by kernel_rfl) (by kernel_rfl) (fun _ _ _ h => h) (by rfl) (fun w hSw => by (try dsimp only at hSw); (obtain ⟨p0, p1, p2, p3, p4, p5, -, -, -, -, -, -⟩ := DM.out _ (ab_trans bb6 hSw); go_simp; try rfl)) hHeld ?_
      go_frame
      refine takeH (i := 15) (some 39) rfl rfl (by kernel_rfl) (by kernel_rfl) (by kernel_rfl) (fun _ _ _ h => h) (by rfl) (fun w hSw => by (try dsimp only at hSw); (obtain ⟨p0, p1, p2, p3, p4, p5, -, -, -, -, -, -⟩ := DQ.out _ (ab_trans bb6 hSw); go_simp; try rfl)) hHeld ?_
      go_frame
      refine wpAnyH_ready (rs := [13]) (by kernel_rfl) (by simp) (AllReadyH.cons rfl (fun K hK => ?_) AllReadyH.nil)
      go_simp
      refine (check_any N _ _ _ _ (HI1.out.keep (ab_trans bb6 hHeld)) (HI2.out.keep (ab_trans bb6 hHeld)) (HI3.out.keep (ab_trans bb6 hHeld))).mono ?_
      rintro e V8 ⟨hck, b8⟩
      obtain rfl := hck.2 g
      show K _ _
      refine hK.out _ _ (ab_trans hHeld b8) (fun hHeld => ?_)
      clear hK K b8 hck
      refine takeH (i := 14) (some 38) rfl rfl (by kernel_rfl) (by kernel_rfl) (by kernel_rfl) (fun _ _ _ h => h) (by rfl) (fun w hSw => by (try dsimp only at hSw); (have hee := eq20; go_simp; try rfl)) hHeld ?_
      go_frame
      refine wpAnyH_ready (rs := [16]) (by kernel_rfl) (by simp) (AllReadyH.cons rfl (fun K hK => ?_) AllReadyH.nil)
      go_simp
      refine (good_any N _ _ _ _ (k41.keep (ab_trans bb6 hHeld)) (k42.keep (ab_trans bb6 hHeld)) (k43.keep (ab_trans bb6 hHeld))).mono ?_
      rintro e V9 ⟨hgd, b9⟩
      obtain rfl := biff_false hgd g
      show K _ _
      refine hK.out _ _ (ab_trans hHeld b9) (fun hHeld => ?_)
      clear hK K b9 hgd
      refine takeH (i := 17) (some 41) rfl rfl (by kernel_rfl) (by kernel_rfl) (by kernel_rfl) (fun _ _ _ h => h) (by rfl) (fun w hSw => by (try dsimp only at hSw); go_simp; try rfl) hHeld ?_
      go_frame
      refine takeH (i := 18) (some 42) rfl rfl (by kernel_rfl) (by kernel_rfl) (by kernel_rfl) (fun _ _ _ h => h) (by rfl) (fun w hSw => by (try dsimp only at hSw); go_simp; try rfl) hHeld ?_
      go_frame
      refine takeH (i := 19) (some 43) rfl rfl (by kernel_rfl) (by kernel_rfl) (by kernel_rfl) (fun _ _ _ h => h) (by rfl) (fun w hSw => by (try dsimp only at hSw); go_simp; try rfl) hHeld ?_
      go_frame
      refine takeH (i := 20) (some 44) rfl rfl (by kernel_rfl) (by kernel_rfl) (by kernel_rfl) (fun _ _ _ h => h) (by rfl) (fun w hSw => by (try dsimp only at hSw); (obtain ⟨p0, p1, p2, p3, p4, p5, -, -, -, -, -, -⟩ := DM.out _ (ab_trans bb6 hSw); go_simp; try rfl)) hHeld ?_
      go_frame
      refine takeH (i := 21) (some 45) rfl rfl (by kernel_rfl) (by kernel_rfl) (by kernel_rfl) (fun _ _ _ h => h) (by rfl) (fun w hSw => by (try dsimp only at hSw); (obtain ⟨p0, p1, p2, p3, p4, p5, -, -, -, -, -, -⟩ := DQ.out _ (ab_trans bb6 hSw); go_simp; try rfl)) hHeld ?_
      go_frame
      refine wpAnyH_ready (rs := [22]) (by kernel_rfl) (by simp) (AllReadyH.cons rfl (fun K hK => ?_) AllReadyH.nil)
      go_simp
      refine (rsame_any N N _ _ _ _ _ _ _ (HI1.out.keep (ab_trans bb6 hHeld)) (HI2.out.keep (ab_trans bb6 hHeld)) (HI3.out.keep (ab_trans bb6 hHeld)) (k41.keep (ab_trans bb6 hHeld)) (k42.keep (ab_trans bb6 hHeld)) (k43.keep (ab_trans bb6 hHeld))).mono ?_
      rintro e VA ⟨hsm, bA⟩
      obtain rfl := biff_true hsm (SameN.refl N)
      show K _ _
      refine hK.out _ _ (ab_trans hHeld bA) (fun hHeld => ?_)
      clear hK K bA hsm
      refine takeH (i := 23) (some 47) rfl rfl (by kernel_rfl) (by kernel_rfl) (by kernel_rfl) (fun _ _ _ h => h) (by rfl) (fun w hSw => by (try dsimp only at hSw); go_simp; try rfl) hHeld ?_
      go_frame
      refine takeH (i := 24) (some 48) rfl rfl (by kernel_rfl) (by kernel_rfl) (by kernel_rfl) (fun _ _ _ h => h) (by rfl) (fun w hSw => by (try dsimp only at hSw); go_simp; try rfl) hHeld ?_
      go_frame
      refine takeH (i := 25) (some 49) rfl rfl (by kernel_rfl) (by kernel_rfl) (by kernel_rfl) (fun _ _ _ h => h) (by rfl) (fun w hSw => by (try dsimp only at hSw); go_simp; try rfl) hHeld ?_
      go_frame
      refine takeH (i := 26) (some 50) rfl rfl (by kernel_rfl) (by kernel_rfl) (by kernel_rfl) (fun _ _ _ h => h) (by rfl) (fun w hSw => by (try dsimp only at hSw); (have hr := (DM.out _ (ab_trans bb6 hSw)).c3; go_simp; try rfl)) hHeld ?_
      go_frame
      refine takeH (i := 27) (some 51) rfl rfl (by kernel_rfl) (by kernel_rfl) (by kernel_rfl) (fun _ _ _ h => h) (by rfl) (fun w hSw => by (try dsimp only at hSw); go_simp; try rfl) hHeld ?_
      go_frame
      refine takeH (i := 28) (some 52) rfl rfl (by kernel_rfl) (by kernel_rfl) (by kernel_rfl) (fun _ _ _ h => h) (by rfl) (fun w hSw => by (try dsimp only at hSw); (have hr := (DM.out _ (ab_trans bb6 hSw)).c3; go_simp; try rfl)) hHeld ?_
      go_frame
      refine takeH (i := 29) (some 53) rfl rfl (by kernel_rfl) (by kernel_rfl) (by kernel_rfl) (fun _ _ _ h => h) (by rfl) (fun w hSw => by (try dsimp only at hSw); go_simp; try rfl) hHeld ?_
      go_frame
      refine takeH (i := 30) (some 54) rfl rfl (by kernel_rfl) (by kernel_rfl) (by kernel_rfl) (fun _ _ _ h => h) (by rfl) (fun w hSw => by (try dsimp only at hSw); (have hr := HWr.out; go_simp; try rfl)) hHeld ?_
      go_frame
      refine takeH (i := 31) (some 55) rfl rfl (by kernel_rfl) (by kernel_rfl) (by kernel_rfl) (fun _ _ _ h => h) (by rfl) (fun w hSw => by (try dsimp only at hSw); exact sli_h_run rfl rfl rfl (j := n + 1) (by omega) hcX) hHeld ?_
      go_frame
      rw [sliced_0]
      refine takeH (i := 32) (some 56) rfl rfl (by kernel_rfl) (by kernel_rfl) (by kernel_rfl) (fun _ _ _ h => h) (by rfl) (fun w hSw => by (try dsimp only at hSw); go_simp; try rfl) hHeld ?_
      go_frame
      refine takeH (i := 33) (some 57) rfl rfl (by kernel_rfl) (by kernel_rfl) (by kernel_rfl) (fun _ _ _ h => h) (by rfl) (fun w hSw => by (try dsimp only at hSw); (have hr := (DM.out _ (ab_trans bb6 hSw)).c3; go_simp; try rfl)) hHeld ?_
      go_frame
      refine takeH (i := 34) (some 58) rfl rfl (by kernel_rfl) (by kernel_rfl) (by kernel_rfl) (fun _ _ _ h => h) (by rfl) (fun w hSw => by (try dsimp only at hSw); go_simp; try rfl) hHeld ?_
      go_frame
      refine takeH (i := 35) (some 59) rfl rfl (by kernel_rfl) (by kernel_rfl) (by kernel_rfl) (fun _ _ _ h => h) (by rfl) (fun w hSw => by (try dsimp only at hSw); (go_simp; exact if_pos (by omega))) hHeld ?_
      go_frame
      refine takeH (i := 36) (some 60) rfl rfl (by kernel_rfl) (by kernel_rfl) (by kernel_rfl) (fun _ _ _ h => h) (by rfl) (fun w hSw => by (try dsimp only at hSw); (have hr := MK.out _ (ab_trans bb6 hSw); go_simp; try rfl)) hHeld ?_
      go_frame
      refine takeH (i := 37) (some 61) rfl rfl (by kernel_rfl) (by kernel_rfl) (by kernel_rfl) (fun _ _ _ h => h) (by rfl) (fun w hSw => by (try dsimp only at hSw); go_simp; try rfl) hHeld ?_
      go_frame
      refine takeH (i := 38) (some 62) rfl rfl (by kernel_rfl) (by kernel_rfl) (by kernel_rfl) (fun _ _ _ h => h) (by rfl) (fun w hSw => by (try dsimp only at hSw); go_simp; try rfl) hHeld ?_
      go_frame
      refine takeH (i := 39) (some 2) rfl rfl (by kernel_rfl) (by kernel_rfl) (by kernel_rfl) (fun _ _ _ h => h) (by rfl) (fun w hSw => by (try dsimp only at hSw); go_simp; try rfl) hHeld ?_
      go_frame
      refine wpAnyH_done (by kernel_rfl) ?_ _
      go_wp2_with fail
      go_ret
      exact ⟨rfl, ab_trans hw4 (ab_trans bb6 hHeld)⟩

theorem own : ownKnob Try.prog.godebug = none := by kernel_rfl
theorem laidOut : laidOutB Try.prog = true := by kernel_rfl

set_option maxRecDepth 100000 in
theorem lifted (os : Os) (started : os.Started) (H : Type) (enc : TypeId × Value → H) :
    ReturnsInHanded {} Try.checked os 3 .any (Rows.noteFormsSpec.pre6 enc Try.prog Try.f3 Rows.noteFormsRow.domain false) (Rows.noteFormsSpec.post enc Try.prog Try.f3 false true false false) := by
  refine returnsInHanded_of_change_sized (C := Try.checked) own started (by kernel_rfl) Try.func3
    (ChangeSpec.witness6 (enc := enc) (C := Try.checked) false ⟨#[], #[.agg #[.int .i64 0, .int .i64 0, .int .i64 0, .slice none 0 0, .slice none 0 0, .slice none 0 0]], []⟩ 8 (by kernel_rfl) (by kernel_rfl) (by kernel_rfl) (by kernel_rfl)) ?_
  intro W base args ds gs before hval0 hW hcnd hsz _
  have hval : ∀ (j : Nat) t v, Try.f3.params[j]? = some t → args[j]? = some v → Value.okWide Try.prog W .any base t v := hval0
  have hW' := hW
  obtain ⟨p, q, hA0, hV, rfl, hfz, hnd⟩ := hW
  have hA : DataW.TrodAll enc Try.prog W 0 (fun _ => true) true Try.f3.params.toList args.toList ds p := hA0
  rw [Try.params3] at hA hval
  obtain ⟨v0, vs0, d0, ds0, p0, q0, hargs, rfl, rfl, h0, r0⟩ := trodAll_cons hA
  obtain ⟨rfl, rfl, rfl⟩ := trodAll_nil r0
  obtain rfl : args = #[v0] := by cases args; simp_all
  obtain ⟨rfl, rfl⟩ := trodVars_none hV
  have k0 := h0
  have lt0 : ∀ x ∈ p0, x.block < W.heap.size := by obtain ⟨m, hm⟩ := k0; exact DataW.trod_lt m _ _ _ hm
  obtain ⟨N0, vn0, vo0, ve0, rfl, hI0, hO0, hE0, hN0, hL0⟩ := open_note (hval 0 26 v0 rfl rfl) h0 (fun n hn => by simpa using List.all_eq_true.1 hsz n (DataW.weights_mem_each (j := 0) (t := 26) (by kernel_rfl) rfl n hn))
  clear hA0 hval0
  refine (walk N0 vn0 vo0 ve0 hI0 hO0 hE0 hN0 hL0).mono fun e W' ⟨he, bel⟩ => ?_
  subst he
  exact ⟨_, rfl, _, _, _, [], _, [], hW', trodAll_mk1 (shut_bool Try.underlying4 _), (trodAll_cons_mk (Below.trod laidOut (by kernel_rfl) (of_decide_eq_true (by kernel_rfl)) k0 bel lt0) trodAll_mk0), rfl, bel.frame _, fun h => by cases h⟩

theorem over : Rows.noteFormsRow.holds Try.pinned (OpenSpec.ofChange Rows.noteFormsSpec) :=
  OpenClaim.holds_of_wide 3 Try.f3 rfl rfl rfl rfl rfl rfl rfl ⟨rfl, rfl, rfl, rfl, rfl⟩ rfl rfl rfl rfl rfl (by kernel_rfl) Try.func3 (by kernel_rfl)
    (of_decide_eq_true (by kernel_rfl)) (by unfold Func.isWrapper; first | (rw [if_pos (by decide +kernel)]; kernel_rfl) | (rw [if_neg (by decide +kernel)]; exact ⟨rfl, rfl⟩))
    (fun os started H enc _ => lifted os started H enc)

theorem proved : Rows.NoteFormsSaid := over
end Go.Proofs.Ytjbhicjnnghjjaa.noteForms
namespace Go.Proofs.Ytjbhicjnnghjjaa
theorem noteForms_holds : Rows.NoteFormsSaid := noteForms.proved
#print axioms noteForms_holds
end Go.Proofs.Ytjbhicjnnghjjaa
