/-
  A Replace is whole or nothing, and sure: estuarylaw06.TapeReplaces returns true for every input; no condition.
-/
import Derived.Test.YtoofgidmegplbaaTpH
import Derived.Deep.CutRange
import Derived.ProofKit
import Derived.OpenShut
import Derived.ChangeOld
import Derived.Below
import Derived.Lib.SmallJoins
namespace Go.Proofs.Ytoofgidmegplbaa.tapeReplaces
open Go.ChangeShapes Go.WideShapes Go.ChangeAt Go.RowKit Go.Joins
set_option linter.unusedVariables false

theorem flat1l (a : List Nat) : [a].flatten = a := by simp
theorem more_str : (⟨#[109, 111, 114, 101]⟩ : ByteArray) = strB [109, 111, 114, 101] := by decide +kernel
theorem eq66 (w : World) : (binOp .eql 40 (Err 6) (Err 6)).run Try.prog w = .ok (.bool true) w := by kernel_rfl
theorem eq55 (w : World) : (binOp .eql 40 (Err 5) (Err 5)).run Try.prog w = .ok (.bool true) w := by kernel_rfl
theorem eq56 (w : World) : (binOp .eql 40 (Err 5) (Err 6)).run Try.prog w = .ok (.bool false) w := by kernel_rfl
theorem eq65 (w : World) : (binOp .eql 40 (Err 6) (Err 5)).run Try.prog w = .ok (.bool false) w := by kernel_rfl
theorem eq05 (w : World) : (binOp .eql 40 .nilIface (Err 5)).run Try.prog w = .ok (.bool false) w := by kernel_rfl
theorem eq06 (w : World) : (binOp .eql 40 .nilIface (Err 6)).run Try.prog w = .ok (.bool false) w := by kernel_rfl
/-- The tape behind Arm; ahead of the Replace. -/
def pre1 (a : List Nat) (arm : Int) : TS := ⟨a ++ [109, 111, 114, 101], a.length, 3, decide (0 ≤ arm), if 0 ≤ arm then arm.toNat else 0, false, 0, false⟩
theorem pre1_ok (a : List Nat) (n : Nat) : pre1 a (n : Int) = ⟨a ++ [109, 111, 114, 101], a.length, 3, true, n, false, 0, false⟩ := by simp [pre1]
theorem pre1_no (a : List Nat) (n : Int) (h : n < 0) : pre1 a n = ⟨a ++ [109, 111, 114, 101], a.length, 3, false, 0, false, 0, false⟩ := by
  have : ¬ 0 ≤ n := by omega
  simp [pre1, this]
def pre (a : List Nat) (arm fail : Int) : TS := ⟨a ++ [109, 111, 114, 101], a.length, 3, decide (0 ≤ arm), if 0 ≤ arm then arm.toNat else 0, decide (0 ≤ fail), if 0 ≤ fail then fail.toNat else 0, false⟩
theorem pre_ok (a : List Nat) (arm : Int) (n : Nat) : pre a arm (n : Int) = { pre1 a arm with rs := true, ra := n } := by simp [pre, pre1]
theorem pre_no (a : List Nat) (arm n : Int) (h : n < 0) : pre a arm n = pre1 a arm := by
  have : ¬ 0 ≤ n := by omega
  simp [pre, pre1, this]
set_option maxRecDepth 100000 in
set_option maxHeartbeats 2000000 in
theorem replaces_any {W : World} (v0 : Value) (a : List Nat) (S0 : Sl W v0 a) (v1 : Value) (b : List Nat) (S1 : Sl W v1 b) (arm : Int) (ha : -9223372036854775808 ≤ arm ∧ arm ≤ 9223372036854775807) (fail : Int) (hf : -9223372036854775808 ≤ fail ∧ fail ≤ 9223372036854775807) :
    Calls Try.prog 24 #[v0, v1, .int .i64 arm, .int .i64 fail] W fun e w' => e = .returned (.bool true) ∧ Below W.heap.size W w' := by
  obtain ⟨q0, c0, e0, -⟩ := id S0
  obtain ⟨q1, c1, e1, -⟩ := id S1
  subst e0; subst e1
  go_enter Try.func24, Try.ntmps24
  go_upto_region 3 with (go_at_call 9; refine (alive6_any _).mono ?_; rintro e V1 ⟨rfl, hb1⟩)
  have HFa : Hid ([a].flatten = a) := flat1l a
  by_cases hbig : 5000 < a.length
  · generalize a.length = na at *
    go_wp2_with fail
    go_ret
    exact ⟨rfl, hb1⟩
  · by_cases hbig2 : 5000 < b.length
    · generalize a.length = na at *
      generalize b.length = nb at *
      go_wp2_with fail
      go_ret
      exact ⟨rfl, hb1⟩
    · have hmx : Hid (a.length ≤ 5000) := by show _ ≤ _; omega
      have hmy : Hid (b.length ≤ 5000) := by show _ ≤ _; omega
      have HTk : Hid ((a ++ [109, 111, 114, 101]).take a.length = a) := List.take_left
      generalize hna : a.length = na at *
      generalize hnb : b.length = nb at *
      go_upto_region 6 with (go_at_call 11; refine (new_any _).mono ?_; rintro e V2 ⟨rfl, h2', b2⟩; have h2 := h2'.less hb1.size; have bw2 := ab_trans hb1 b2; have sa2 := stb_old h2 bw2 (Nat.le_refl _) S0; have sb2 := stb_old h2 bw2 (Nat.le_refl _) S1; clear h2')
      go_wp2_with (refine bs_ls rfl rfl [_] [a] (by simp only [List.map_toArray, List.map_cons, List.map_nil]; rfl) (bsl1 _ _ _ _) rfl (by decide) rfl (each1 sa2.sl) ?_; intro V3 ls3 b3 k3; have h3 := h2.keep b3; have st3 := stl_new (n := 1) [_] [a] h2 b3 k3 rfl (by decide) rfl (eachS1 sa2))
      refine (append_up _ _ _ _ _ _ _ _ _ _ h3 (by omega) st3 (by rw [HFa.out]; show 0 + a.length ≤ _; omega)).mono ?_
      rintro e V4 ⟨rfl, v4, h4', m4⟩
      have h4 : Tp V4 W.heap.size V1.heap.size v4 (up a 0 1) := by rw [HFa.out] at h4'; exact h4'
      have m24 := (mv_below _ b3).trans m4
      have sa4 := sa2.mv m24
      have sb4 := sb2.mv m24
      have bw4 := bw2.trans (h2.below m24)
      clear m24 m4 h4' st3 ls3 k3 h3 b3 sa2 sb2 h2 bw2
      go_wp2_with fail
      refine (sync_up _ _ _ _ _ _ _ h4 (by omega)).mono ?_
      rintro e V5 ⟨rfl, h5, m5⟩
      rw [hna] at h5
      have sa5 := sa4.mv m5
      have sb5 := sb4.mv m5
      have bw5 := bw4.trans (h4.below m5)
      clear m5 h4 sa4 sb4 bw4
      go_wp2_with (first
        | (refine bs_by rfl rfl [109, 111, 114, 101] (vs := #[(0, .int .u8 109), (1, .int .u8 111), (2, .int .u8 114), (3, .int .u8 101)]) (by simp only [List.map_toArray, List.map_cons, List.map_nil]; rfl) (bsb4 109 111 114 101 _) rfl (by decide) ?_; intro V6 n6 b6 z6)
        | (refine cv_t rfl rfl rfl n6 ?_; intro X6 s6 k6; have c6 := below_mark b6 k6; have h6 := h5.keep c6; have t6 := stb_at h5 s6)
        | (refine bs_ls rfl rfl [_] [[109, 111, 114, 101]] (by simp only [List.map_toArray, List.map_cons, List.map_nil]; rfl) (bsl1 _ _ _ _) rfl (by decide) rfl (each1 t6.sl) ?_; intro V7 ls7 b7 k7; have h7 := h6.keep b7; have st7 := stl_new (n := 1) [_] [[109, 111, 114, 101]] h6 b7 k7 rfl (by decide) rfl (eachS1 t6)))
      refine (append_up _ _ _ _ _ _ _ _ _ _ h7 (by omega) st7 (by show a.length + 4 ≤ _; omega)).mono ?_
      rintro e V8 ⟨rfl, v8, h8', m8⟩
      have h8 : Tp V8 W.heap.size V1.heap.size v8 (up (a ++ [109, 111, 114, 101]) na 3) := h8'
      have m58 := (mv_below _ c6).trans ((mv_below _ b7).trans m8)
      have sa8 := sa5.mv m58
      have sb8 := sb5.mv m58
      have bw8 := bw5.trans (h5.below m58)
      clear m58 m8 h8' st7 ls7 k7 h7 b7 t6 h6 c6 k6 s6 n6 b6 z6 sa5 sb5 h5 bw5
      go_upto_if 42 with fail
      go_cut [] from 43 to 45 (fun wc => ∃ v', Tp wc W.heap.size V1.heap.size v' (pre1 a arm) ∧ Stb V1.heap.size wc v' (.slice q0 na c0) a ∧ Stb V1.heap.size wc v' (.slice q1 nb c1) b ∧ Below W.heap.size W wc)
      case first =>
        by_cases hA : 0 ≤ arm
        · obtain ⟨A, rfl⟩ := Int.eq_ofNat_of_zero_le hA
          go_wp2_with (go_at_call 21; refine (arm_ok _ _ _ _ A _ h8 (by omega)).mono ?_; rintro e V9 ⟨rfl, h9, m9⟩)
          go_meet
          case rel => exact ⟨_, by rw [pre1_ok]; rw [hna]; exact h9, sa8.mv m9, sb8.mv m9, bw8.trans (h8.below m9)⟩
        · go_wp2_with fail
          go_meet
          case rel => exact ⟨_, by rw [pre1_no _ _ (by omega)]; rw [hna]; exact h8, sa8, sb8, bw8⟩
      case rest =>
        obtain ⟨v9, h9, sa9, sb9, bw9⟩ := hcut
        clear h8 sa8 sb8 bw8
        go_upto_if 47 with fail
        go_cut [] from 48 to 50 (fun wx => ∃ v', Tp wx W.heap.size V1.heap.size v' (pre a arm fail) ∧ Stb V1.heap.size wx v' (.slice q0 na c0) a ∧ Stb V1.heap.size wx v' (.slice q1 nb c1) b ∧ Below W.heap.size W wx)
        case first =>
          by_cases hA : 0 ≤ fail
          · obtain ⟨A, rfl⟩ := Int.eq_ofNat_of_zero_le hA
            go_wp2_with (go_at_call 22; refine (fail_ok _ _ _ _ A _ h9 (by omega)).mono ?_; rintro e V9 ⟨rfl, hh, m9⟩)
            go_meet
            case rel => exact ⟨_, by rw [pre_ok]; exact hh, sa9.mv m9, sb9.mv m9, bw9.trans (h9.below m9)⟩
          · go_wp2_with fail
            go_meet
            case rel => exact ⟨_, by rw [pre_no _ _ _ (by omega)]; exact h9, sa9, sb9, bw9⟩
        case rest =>
          clear h9 sa9 sb9 bw9
          obtain ⟨v9, h9, sa9, sb9, bw9⟩ := hcut
          have HN : Hid (rpN (pre a arm fail) nb = stN (pre a arm fail)) := if_pos (by omega)
          have hl := stS_l (pre a arm fail)
          have HTb : Hid (b.take nb = b) := by show _ = _; rw [← hnb, List.take_length]
          by_cases hA : arm = 0
          · have H5 : stN (pre a arm fail) = 5 := by subst hA; simp [stN, pre, duF]
            have HS : Hid (rpS (pre a arm fail) b = stS (pre a arm fail)) := by show _ = _; unfold rpS; rw [if_pos (by omega), if_neg (by omega)]
            have hne := ne_err 5
            have h55 := eq55
            have h56 := eq56
            subst hA
            go_upto_region 13 with (go_at_call 25; refine (replace_any _ _ _ _ b _ _ h9 (by show 3 < _; omega) sb9).mono ?_; rintro e V10 ⟨rfl, v10, h10, m10⟩; rw [hnb, HN.out, H5, errV_no (by omega)])
            rw [HS.out] at h10
            have sa10 := sa9.mv m10
            have sb10 := sb9.mv m10
            have bw10 := bw9.trans (h9.below m10)
            have hca := sl_str sa10.sl
            have hcb := sl_str sb10.sl
            clear m10 h9 sa9 sb9 bw9 H5
            go_upto_region 16 with fail
            go_quiet (fail)
            have b11 : Below V10.heap.size V10 (V10.drewN nq) := below_drewN (Below.refl _ _) nq
            have h10 := h10.keep b11
            have bw10 := bw10.trans (b11.mono bw10.size)
            clear hca hcb sa10 sb10 b11
            generalize V10.drewN nq = VA at *
            go_wp2_with fail
            refine (crash_up _ _ _ _ 0 na _ h10 (by omega) (by rw [hl.1, hl.2]; show a.length + min 0 _ = na; omega)).mono ?_
            rintro e V11 ⟨rfl, v11, h11', m11⟩
            have h11 : Tp V11 W.heap.size V1.heap.size v11 (up a na (stS (pre a 0 fail)).steps) := by rw [hl.1, show (pre a 0 fail).l.take na = a from HTk.out] at h11'; exact h11'
            have bw11 := bw10.trans (h10.below m11)
            clear h10 m11 h11' bw10
            go_wp2_with fail
            refine (tread_any _ _ _ _ _ h11).mono ?_
            rintro e V12 ⟨v12, rfl, O12, b12⟩
            have hc12 : (convert 30 9 v12).run Try.prog V12 = .ok (.string (strB a)) V12 := sl_str O12.sl
            have bw12 := bw11.trans (b12.mono bw11.size)
            clear h11 bw11 b12
            go_wp2_with fail
            go_ret
            exact ⟨rfl, bw12⟩
          · have hAn : (arm == 0) = false := by simp [hA]
            have hAm : (arm != 0) = true := by simp [hA]
            have hF0 : duF (pre a arm fail).os (pre a arm fail).oa = false := by
              by_cases h0 : 0 ≤ arm
              · have : ¬ arm.toNat = 0 := by omega
                simp [pre, duF, h0, this]
              · simp [pre, duF, h0]
            by_cases hB : fail = 0
            · have H6 : stN (pre a arm fail) = 6 := by
                unfold stN
                rw [if_neg (by simp [pre]), if_neg (by rw [hF0]; simp), if_pos (by subst hB; simp [pre, duF])]
              have HS : Hid (rpS (pre a arm fail) b = stS (pre a arm fail)) := by show _ = _; unfold rpS; rw [if_pos (by omega), if_neg (by omega)]
              have hne := ne_err 6
              have h65 := eq65
              have h66 := eq66
              subst hB
              clear hA hF0
              go_upto_region 13 with (go_at_call 25; refine (replace_any _ _ _ _ b _ _ h9 (by show 3 < _; omega) sb9).mono ?_; rintro e V10 ⟨rfl, v10, h10, m10⟩; rw [hnb, HN.out, H6, errV_no (by omega)])
              rw [HS.out] at h10
              have sa10 := sa9.mv m10
              have sb10 := sb9.mv m10
              have bw10 := bw9.trans (h9.below m10)
              have hca := sl_str sa10.sl
              have hcb := sl_str sb10.sl
              clear m10 h9 sa9 sb9 bw9 H6
              go_upto_region 16 with fail
              clear hca hcb
              refine wp_region_held_drew (S := fun w' => Below W.heap.size W w') (by kernel_rfl) bw10.drew (fun hHeld => ?_)
              have h10 := h10.keep (W' := V10.drew) (Below.refl _ _).drew
              clear sa10 sb10 bw10
              generalize V10.drew = VB at *
              have HCa : ∀ w, Below W.heap.size W w → (convert 30 9 (.slice q0 na c0)).run Try.prog w = .ok (.string (strB a)) w := fun w hw => sl_str (S0.keep hw)
              refine takeH (i := 0) (some 60) rfl rfl (by kernel_rfl) (by kernel_rfl) (by kernel_rfl) (fun _ _ _ h => h) (by rfl) (fun w hSw => by (try dsimp only at hSw); go_simp; try rfl) hHeld ?_
              go_frame
              refine takeH (i := 1) (some 61) rfl rfl (by kernel_rfl) (by kernel_rfl) (by kernel_rfl) (fun _ _ _ h => h) (by rfl) (fun w hSw => by (try dsimp only at hSw); go_simp; try rfl) hHeld ?_
              go_frame
              refine takeH (i := 2) (some 62) rfl rfl (by kernel_rfl) (by kernel_rfl) (by kernel_rfl) (fun _ _ _ h => h) (by rfl) (fun w hSw => by (try dsimp only at hSw); (have hc := h66 w; go_simp; try rfl)) hHeld ?_
              go_frame
              refine takeH (i := 3) (some 63) rfl rfl (by kernel_rfl) (by kernel_rfl) (by kernel_rfl) (fun _ _ _ h => h) (by rfl) (fun w hSw => by (try dsimp only at hSw); go_simp; try rfl) hHeld ?_
              go_frame
              refine takeH (i := 4) (some 64) rfl rfl (by kernel_rfl) (by kernel_rfl) (by kernel_rfl) (fun _ _ _ h => h) (by rfl) (fun w hSw => by (try dsimp only at hSw); go_simp; try rfl) hHeld ?_
              go_frame
              refine takeH (i := 7) (some 67) rfl rfl (by kernel_rfl) (by kernel_rfl) (by kernel_rfl) (fun _ _ _ h => h) (by rfl) (fun w hSw => by (try dsimp only at hSw); go_simp; try rfl) hHeld ?_
              go_frame
              refine takeH (i := 8) (some 68) rfl rfl (by kernel_rfl) (by kernel_rfl) (by kernel_rfl) (fun _ _ _ h => h) (by rfl) (fun w hSw => by (try dsimp only at hSw); (have hc := HCa w hSw; go_simp; try rfl)) hHeld ?_
              go_frame
              refine takeH (i := 9) (some 69) rfl rfl (by kernel_rfl) (by kernel_rfl) (by kernel_rfl) (fun _ _ _ h => h) (by rfl) (fun w hSw => by (try dsimp only at hSw); (refine (?_ : _ = Result.ok (Next.value (.string (strB (a ++ [109, 111, 114, 101])))) _); go_simp; rw [if_neg (by rw [strB_len]; omega), more_str, strB_app])) hHeld ?_
              go_frame
              refine wpAnyH_ready (rs := [5]) (by kernel_rfl) (by simp) (AllReadyH.cons rfl (fun K hK => ?_) AllReadyH.nil)
              go_simp
              refine (tread_any _ _ _ _ _ h10).mono ?_
              rintro e VC ⟨vC, rfl, OC, bC⟩
              have h10 := h10.keep bC
              have hcC := sl_str OC.sl
              show K _ _
              refine hK.out _ _ (hHeld.trans (bC.mono hHeld.size)) (fun hHeld => ?_)
              clear hK K
              have hcC' : (convert 30 9 vC).run Try.prog VC = .ok (.string (strB (a ++ [109, 111, 114, 101]))) VC := by rw [hcC, hl.1]; rfl
              clear hcC
              refine wpAnyH_ready (rs := [6]) (by kernel_rfl) (by simp) (AllReadyH.cons rfl (fun K hK => ?_) AllReadyH.nil)
              go_simp
              refine hK.out _ _ hHeld (fun hHeld => ?_)
              clear hK K
              refine takeH (i := 10) (some 70) rfl rfl (by kernel_rfl) (by kernel_rfl) (by kernel_rfl) (fun _ _ _ h => h) (by rfl) (fun w hSw => by (try dsimp only at hSw); (refine (?_ : _ = Result.ok (Next.value (.bool false)) _); go_simp; try rfl)) hHeld ?_
              go_frame
              refine takeH (i := 11) (some 71) rfl rfl (by kernel_rfl) (by kernel_rfl) (by kernel_rfl) (fun _ _ _ h => h) (by rfl) (fun w hSw => by (try dsimp only at hSw); go_simp; try rfl) hHeld ?_
              go_frame
              refine wpAnyH_done (by kernel_rfl) ?_ _
              clear hcC' HCa OC bC
              have bw10 := hHeld
              clear hHeld
              go_wp2_with fail
              refine (crash_up _ _ _ _ 0 na _ h10 (by omega) (by rw [hl.1, hl.2]; show a.length + min 0 _ = na; omega)).mono ?_
              rintro e V11 ⟨rfl, v11, h11', m11⟩
              have h11 : Tp V11 W.heap.size V1.heap.size v11 (up a na (stS (pre a arm 0)).steps) := by rw [hl.1, show (pre a arm 0).l.take na = a from HTk.out] at h11'; exact h11'
              have bw11 := bw10.trans (h10.below m11)
              clear h10 m11 h11' bw10
              go_wp2_with fail
              refine (tread_any _ _ _ _ _ h11).mono ?_
              rintro e V12 ⟨v12, rfl, O12, b12⟩
              have hc12 : (convert 30 9 v12).run Try.prog V12 = .ok (.string (strB a)) V12 := sl_str O12.sl
              have bw12 := bw11.trans (b12.mono bw11.size)
              clear h11 bw11 b12
              go_wp2_with fail
              go_ret
              exact ⟨rfl, bw12⟩
            · have hBn : (fail == 0) = false := by simp [hB]
              have H0 : stN (pre a arm fail) = 0 := by
                unfold stN
                rw [if_neg (by simp [pre]), if_neg (by rw [hF0]; simp), if_neg]
                by_cases h0 : 0 ≤ fail
                · have : ¬ fail.toNat = 0 := by omega
                  simp [pre, duF, h0, this]
                · simp [pre, duF, h0]
              have HS : Hid (rpS (pre a arm fail) b = { stS (pre a arm fail) with l := b, sure := nb }) := by show _ = _; unfold rpS; rw [if_pos (by omega), if_pos H0, hnb]
              have h05 := eq05
              have h06 := eq06
              clear hA hB hF0
              go_upto_region 13 with (go_at_call 25; refine (replace_any _ _ _ _ b _ _ h9 (by show 3 < _; omega) sb9).mono ?_; rintro e V10 ⟨rfl, v10, h10, m10⟩; rw [hnb, HN.out, H0, errV_ok rfl])
              rw [HS.out] at h10
              have sb10 := sb9.mv m10
              have bw10 := bw9.trans (h9.below m10)
              have hcb := sl_str sb10.sl
              clear m10 h9 sa9 sb9 bw9 H0
              go_upto_region 18 with fail
              clear hcb sb10
              go_wp2_with fail
              refine (crash_up _ _ _ _ 0 nb _ h10 (by omega) (by show nb + min 0 _ = nb; omega)).mono ?_
              rintro e V11 ⟨rfl, v11, h11', m11⟩
              have h11 : Tp V11 W.heap.size V1.heap.size v11 (up b nb (stS (pre a arm fail)).steps) := by rw [show (⟨b, nb, (stS (pre a arm fail)).steps, (stS (pre a arm fail)).os, (stS (pre a arm fail)).oa, (stS (pre a arm fail)).rs, (stS (pre a arm fail)).ra, (stS (pre a arm fail)).down⟩ : TS).l.take nb = b from HTb.out] at h11'; exact h11'
              have bw11 := bw10.trans (h10.below m11)
              clear h10 m11 h11' bw10
              go_wp2_with fail
              refine (tread_any _ _ _ _ _ h11).mono ?_
              rintro e V12 ⟨v12, rfl, O12, b12⟩
              have hc12 : (convert 30 9 v12).run Try.prog V12 = .ok (.string (strB b)) V12 := sl_str O12.sl
              have bw12 := bw11.trans (b12.mono bw11.size)
              clear h11 bw11 b12
              go_wp2_with fail
              go_ret
              exact ⟨rfl, bw12⟩
set_option maxRecDepth 100000 in
set_option maxHeartbeats 1000000 in
theorem walk {W : World} (v0 : Value) (a : List Nat) (S0 : Sl W v0 a) (B0 : Byt a) (v1 : Value) (b : List Nat) (S1 : Sl W v1 b) (B1 : Byt b) (arm : Int) (ha : -9223372036854775808 ≤ arm ∧ arm ≤ 9223372036854775807) (fail : Int) (hf : -9223372036854775808 ≤ fail ∧ fail ≤ 9223372036854775807) :
    Calls Try.prog 6 #[.agg #[v0, v1, .int .i64 arm, .int .i64 fail]] W fun e w' => e = .returned (.bool true) ∧ Below W.heap.size W w' := by
  obtain ⟨q0, c0, e0, -⟩ := id S0
  obtain ⟨q1, c1, e1, -⟩ := id S1
  subst e0; subst e1
  generalize a.length = na at *
  generalize b.length = nb at *
  have hb : Below W.heap.size W (W.alloc (.cells #[.slice q0 na c0, .slice q1 nb c1, .int .i64 arm, .int .i64 fail] 49)) := (Below.refl _ _).alloc (Nat.le_refl _) _
  go_enter Try.func6, Try.ntmps6
  go_wp2_with fail
  refine (replaces_any _ a (S0.keep hb) _ b (S1.keep hb) arm ha fail hf).mono ?_
  rintro e V ⟨rfl, hb2⟩
  go_wp2_with fail
  go_ret
  exact ⟨rfl, ab_trans hb hb2⟩

theorem own : ownKnob Try.prog.godebug = none := by kernel_rfl
theorem laidOut : laidOutB Try.prog = true := by kernel_rfl

set_option maxRecDepth 100000 in
theorem lifted (os : Os) (started : os.Started) (H : Type) (enc : TypeId × Value → H) :
    ReturnsInHanded {} Try.checked os 6 .any (Rows.tapeReplacesSpec.pre6 enc Try.prog Try.f6 Rows.tapeReplacesRow.domain false) (Rows.tapeReplacesSpec.post enc Try.prog Try.f6 false true false false) := by
  refine returnsInHanded_of_change (C := Try.checked) own started (by kernel_rfl) Try.func6
    (ChangeSpec.witness6 (enc := enc) (C := Try.checked) false ⟨#[], #[.agg #[.slice none 0 0, .slice none 0 0, .int .i64 0, .int .i64 0]], []⟩ 8 (by kernel_rfl) (by kernel_rfl) (by kernel_rfl) (by kernel_rfl)) ?_
  intro W base args ds gs before hval0 hW hcnd _
  have hval : ∀ (j : Nat) t v, Try.f6.params[j]? = some t → args[j]? = some v → Value.okWide Try.prog W .any base t v := hval0
  have hW' := hW
  obtain ⟨p, q, hA0, hV, rfl, hfz, hnd⟩ := hW
  have hA : DataW.TrodAll enc Try.prog W 0 (fun _ => true) true Try.f6.params.toList args.toList ds p := hA0
  rw [Try.params6] at hA hval
  obtain ⟨v0, vs0, d0, ds0, p0, q0, hargs, rfl, rfl, h0, r0⟩ := trodAll_cons hA
  obtain ⟨rfl, rfl, rfl⟩ := trodAll_nil r0
  obtain rfl : args = #[v0] := by cases args; simp_all
  obtain ⟨rfl, rfl⟩ := trodVars_none hV
  have k0 := h0
  have lt0 : ∀ x ∈ p0, x.block < W.heap.size := by obtain ⟨m, hm⟩ := k0; exact DataW.trod_lt m _ _ _ hm
  obtain ⟨cs0, rfl, hz0, fm0, hx0⟩ := open_struct (n := 4) Try.underlying49 (by kernel_rfl) (hval 0 49 v0 rfl rfl) h0
  obtain ⟨e0_0, e0_1, e0_2, e0_3, rfl⟩ : ∃ e0_0 e0_1 e0_2 e0_3, cs0 = #[e0_0, e0_1, e0_2, e0_3] := by
    refine ⟨cs0[0], cs0[1], cs0[2], cs0[3], ?_⟩
    apply Array.ext
    · simpa using hz0
    · intro i h1 h2
      have : i = 0 ∨ i = 1 ∨ i = 2 ∨ i = 3 := by omega
      rcases this with rfl | rfl | rfl | rfl <;> rfl
  obtain ⟨fy0_0, fg0_0⟩ := hx0 0 _ rfl
  obtain ⟨sq0_0, sg0_0, so0_0, sn0_0, sk0_0, sl0_0, ee0_0, hl0_0, hk0_0, hm0_0, hp0_0, hg0_0, hc0_0⟩ := rows_of (n := 1) (D := 8) (fun _ => .u8) Try.underlying30 (by kernel_rfl) (by omega) (kinds_of (by kernel_rfl)) fg0_0
  obtain rfl : e0_0 = .slice sq0_0 sn0_0 sk0_0 := by have h9 : [e0_0] = [Value.slice sq0_0 sn0_0 sk0_0] := ee0_0; simpa using h9
  obtain ⟨l0_0_, S0_0_, B0_0_⟩ := bytes_rows hl0_0 hk0_0 hm0_0 hp0_0 hg0_0 hc0_0
  obtain ⟨fy0_1, fg0_1⟩ := hx0 1 _ rfl
  obtain ⟨sq0_1, sg0_1, so0_1, sn0_1, sk0_1, sl0_1, ee0_1, hl0_1, hk0_1, hm0_1, hp0_1, hg0_1, hc0_1⟩ := rows_of (n := 1) (D := 8) (fun _ => .u8) Try.underlying30 (by kernel_rfl) (by omega) (kinds_of (by kernel_rfl)) fg0_1
  obtain rfl : e0_1 = .slice sq0_1 sn0_1 sk0_1 := by have h9 : [e0_1] = [Value.slice sq0_1 sn0_1 sk0_1] := ee0_1; simpa using h9
  obtain ⟨l0_1_, S0_1_, B0_1_⟩ := bytes_rows hl0_1 hk0_1 hm0_1 hp0_1 hg0_1 hc0_1
  obtain ⟨fy0_2, fg0_2⟩ := hx0 2 _ rfl
  obtain ⟨a0_2, ea0_2, w0_2⟩ := flat_cell 8 _ 3 _ _ 0 .i64 fg0_2 (by kernel_rfl)
  obtain rfl : e0_2 = .int .i64 a0_2 := by have h9 : ([e0_2] : List Value)[0]? = some (Value.int .i64 a0_2) := ea0_2; simpa using h9
  obtain ⟨fy0_3, fg0_3⟩ := hx0 3 _ rfl
  obtain ⟨a0_3, ea0_3, w0_3⟩ := flat_cell 8 _ 3 _ _ 0 .i64 fg0_3 (by kernel_rfl)
  obtain rfl : e0_3 = .int .i64 a0_3 := by have h9 : ([e0_3] : List Value)[0]? = some (Value.int .i64 a0_3) := ea0_3; simpa using h9
  clear hA0 hval0
  refine (walk (.slice sq0_0 sn0_0 sk0_0) l0_0_ S0_0_ B0_0_ (.slice sq0_1 sn0_1 sk0_1) l0_1_ S0_1_ B0_1_ a0_2 (bounds_i64 w0_2) a0_3 (bounds_i64 w0_3)).mono fun e W' ⟨he, bel⟩ => ?_
  subst he
  exact ⟨_, rfl, _, _, _, [], _, [], hW', trodAll_mk1 (shut_bool Try.underlying4 _), (trodAll_cons_mk (Below.trod laidOut (by kernel_rfl) (of_decide_eq_true (by kernel_rfl)) k0 bel lt0) trodAll_mk0), rfl, bel.frame _, fun h => by cases h⟩

theorem over : Rows.tapeReplacesRow.holds Try.pinned (OpenSpec.ofChange Rows.tapeReplacesSpec) :=
  OpenClaim.holds_of_wide 6 Try.f6 rfl rfl rfl rfl rfl rfl rfl ⟨rfl, rfl, rfl, rfl, rfl⟩ rfl rfl rfl rfl rfl (by kernel_rfl) Try.func6 (by kernel_rfl)
    (of_decide_eq_true (by kernel_rfl)) (by unfold Func.isWrapper; first | (rw [if_pos (by decide +kernel)]; kernel_rfl) | (rw [if_neg (by decide +kernel)]; exact ⟨rfl, rfl⟩))
    (fun os started H enc _ => lifted os started H enc)

theorem proved : Rows.TapeReplacesSaid := over
end Go.Proofs.Ytoofgidmegplbaa.tapeReplaces
namespace Go.Proofs.Ytoofgidmegplbaa
theorem tapeReplaces_holds : Rows.TapeReplacesSaid := tapeReplaces.proved
#print axioms tapeReplaces_holds
end Go.Proofs.Ytoofgidmegplbaa
