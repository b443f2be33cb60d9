/-
  What every change does to every value, as the document says; neither the change nor the value is changed or shared: estuarylaw10.ChangeDoes returns true for every input; no condition.
-/
import Derived.Test.YtjmdekddkpadeaaChL
import Derived.ProofKit
import Derived.OpenShut
import Derived.ChangeOld
import Derived.Below
namespace Go.Proofs.Ytjmdekddkpadeaa.changeDoes
open Go.ChangeShapes Go.WideShapes Go.ChangeAt Go.RowKit Go.Joins
set_option linter.unusedVariables false

set_option maxHeartbeats 4000000 in
set_option maxRecDepth 100000 in
theorem does_walk (x : CgD) (v : Value) (l : List Int) (w : World) (ho : IsZ w x.vo x.o) (hn : IsZ w x.vn x.n) (hv : IsZ w v l) :
    Calls Try.prog 3 #[cgV x.k x.vo x.vn, v] w fun e w' => e = .returned (.bool true) ∧ Below w.heap.size w w' := by
  obtain ⟨kk, vo, o, vn, nn⟩ := x
  obtain ⟨ho, zo⟩ := ho
  obtain ⟨hn, zn⟩ := hn
  obtain ⟨hv, zv⟩ := hv
  dsimp only at ho hn hv zo zn zv ⊢
  obtain ⟨q1, c1, e⟩ := ho.form
  subst e
  obtain ⟨q2, c2, e⟩ := hn.form
  subst e
  obtain ⟨q3, c3, e⟩ := hv.form
  subst e
  obtain ⟨n1, hn1⟩ : ∃ n, o.length = n := ⟨_, rfl⟩
  obtain ⟨n2, hn2⟩ : ∃ n, nn.length = n := ⟨_, rfl⟩
  obtain ⟨n3, hn3⟩ : ∃ n, l.length = n := ⟨_, rfl⟩
  rw [hn1] at ho zo ⊢
  rw [hn2] at hn zn ⊢
  rw [hn3] at hv zv ⊢
  have x1 : IntKind.i64.wrap ((n1 : Int) + n2) = (n1 : Int) + n2 := by simp [IntKind.wrap, IntKind.signed, IntKind.bits] <;> omega
  have x2 : IntKind.i64.wrap ((n1 : Int) + n2 + n3) = (n1 : Int) + n2 + n3 := by simp [IntKind.wrap, IntKind.signed, IntKind.bits] <;> omega
  go_enter Try.func3, Try.ntmps3
  go_upto_region 1 with fail
  obtain ⟨A, hAe, hB, hw⟩ := blk1 w (cgC kk (.slice q1 n1 c1) (.slice q2 n2 c2)) 24
  rw [hAe]
  clear hAe
  go_upto_region 3 with (go_at_call 8; refine (alive10_any _).mono ?_; rintro e W1 ⟨rfl, b1⟩)
  have hB1 := hB.keep b1
  have hw1 := ab_trans hw b1
  have hlt := hB.lt
  have hsz := b1.size
  clear hB hw b1
  have y0 : W1.cell? ⟨w.heap.size, 0, none⟩ = some (.int .i64 kk) := hB1.at rfl
  have y1 : W1.cell? ⟨w.heap.size, 1, none⟩ = some (.slice q1 n1 c1) := hB1.at rfl
  have y2 : W1.cell? ⟨w.heap.size, 2, none⟩ = some (.slice q2 n2 c2) := hB1.at rfl
  by_cases c5 : n1 + n2 + n3 ≤ 1000
  rotate_left
  · have c6 : ¬ (n1 : Int) + n2 + n3 ≤ 1000 := by omega
    have c7 : (1000 : Int) < (n1 : Int) + n2 + n3 := by omega
    go_wp2_with fail
    go_ret
    exact ⟨rfl, hw1⟩
  have c6 : (n1 : Int) + n2 + n3 ≤ 1000 := by omega
  have c7 : ¬ (1000 : Int) < (n1 : Int) + n2 + n3 := by omega
  go_upto_region 5 with fail
  clear c6 c7 y0 y1 y2 x1 x2 zo zn zv
  obtain ⟨y0, y1, y2⟩ := cellsG hB1
  have i1 := ho.keep hw1
  have i2 := hn.keep hw1
  go_cut [5] from 25 to 33 (fun s wc => ∃ g qa ca qb cb, s = .pointer (some ⟨g, 0, none⟩) ∧ W1.heap.size ≤ g ∧ Blk wc g (cgC kk (.slice qa n1 ca) (.slice qb n2 cb)) 24 ∧ Cn wc W1.heap.size (.slice qa n1 ca) o ∧ Cn wc W1.heap.size (.slice qb n2 cb) nn ∧ Below W1.heap.size W1 wc)
  case first =>
    refine wp_region_held_drew (S := fun w' => Below W1.heap.size W1 w') (by kernel_rfl) (ab_drew (Below.refl _ _)) (fun hHeld => ?_)
    refine takeH (i := 0) (some 25) rfl rfl (by kernel_rfl) (by kernel_rfl) (by kernel_rfl) (fun _ _ _ h => h) (by rfl) (fun w hSw => by (try dsimp only at hSw); go_simp; try rfl) hHeld ?_
    go_frame
    refine takeH (i := 1) (some 26) rfl rfl (by kernel_rfl) (by kernel_rfl) (by kernel_rfl) (fun _ _ _ h => h) (by rfl) (fun w hSw => by (try dsimp only at hSw); have y := y0 _ hSw; go_simp; try rfl) hHeld ?_
    go_frame
    refine takeH (i := 2) (some 27) rfl rfl (by kernel_rfl) (by kernel_rfl) (by kernel_rfl) (fun _ _ _ h => h) (by rfl) (fun w hSw => by (try dsimp only at hSw); go_simp; try rfl) hHeld ?_
    go_frame
    refine takeH (i := 3) (some 28) rfl rfl (by kernel_rfl) (by kernel_rfl) (by kernel_rfl) (fun _ _ _ h => h) (by rfl) (fun w hSw => by (try dsimp only at hSw); have y := y1 _ hSw; go_simp; try rfl) hHeld ?_
    go_frame
    refine takeH (i := 5) (some 30) rfl rfl (by kernel_rfl) (by kernel_rfl) (by kernel_rfl) (fun _ _ _ h => h) (by rfl) (fun w hSw => by (try dsimp only at hSw); go_simp; try rfl) hHeld ?_
    go_frame
    refine takeH (i := 6) (some 31) rfl rfl (by kernel_rfl) (by kernel_rfl) (by kernel_rfl) (fun _ _ _ h => h) (by rfl) (fun w hSw => by (try dsimp only at hSw); have y := y2 _ hSw; go_simp; try rfl) hHeld ?_
    go_frame
    refine wpAnyH_ready (rs := [4, 9]) (by kernel_rfl) (by simp) (AllReadyH.cons rfl (fun K hK => ?_) (AllReadyH.cons rfl (fun K hK => ?_) AllReadyH.nil))
    · go_simp
      refine (marked_any _ o _ (i1.keep hHeld) (by omega)).mono ?_
      rintro e X4 ⟨va, rfl, hCa, bx4⟩
      obtain ⟨qa, ca, ea⟩ := hCa.is.form
      rw [hn1] at ea
      subst ea
      have hCa := hCa.less hHeld.size
      show K _ _
      refine hK.out _ _ (ab_trans hHeld bx4) (fun hHeld => ?_)
      clear hK K
      refine wpAnyH_ready (rs := [7, 9]) (by kernel_rfl) (by simp) (AllReadyH.cons rfl (fun K hK => ?_) (AllReadyH.cons rfl (fun K hK => ?_) AllReadyH.nil))
      · go_simp
        refine (marked_any _ nn _ (i2.keep hHeld) (by omega)).mono ?_
        rintro e X7 ⟨vb, rfl, hCb, bx7⟩
        obtain ⟨qb, cb, eb⟩ := hCb.is.form
        rw [hn2] at eb
        subst eb
        have hCb := hCb.less hHeld.size
        have hCa := hCa.keep bx7
        show K _ _
        refine hK.out _ _ (ab_trans hHeld bx7) (fun hHeld => ?_)
        clear hK K
        refine takeH (i := 8) (some 33) rfl rfl (by kernel_rfl) (by kernel_rfl) (by kernel_rfl) (fun _ _ _ h => h) (by rfl) (fun w hSw => by (try dsimp only at hSw); go_simp; try rfl) hHeld ?_
        go_frame
        refine wpAnyH_ready (rs := [9]) (by kernel_rfl) (by simp) (AllReadyH.cons rfl (fun K hK => ?_) AllReadyH.nil)
        rw [if_pos (by rfl)]
        refine alW (some 5) rfl rfl (cgC 0 (.slice none 0 0) (.slice none 0 0)) (zero_cg _) fun X9 hG bx9 => ?_
        have hge := hHeld.size
        have hCa := hCa.keep bx9
        have hCb := hCb.keep bx9
        refine hK.out _ _ (ab_trans hHeld bx9) (fun hHeld => ?_)
        clear hK K
        go_frame
        refine wpAnyH_ready (rs := [10]) (by kernel_rfl) (by simp) (AllReadyH.cons rfl (fun K hK => ?_) AllReadyH.nil)
        rw [if_pos (by rfl)]
        refine stW none rfl rfl hG rfl rfl (info_cg kk (.slice qa n1 ca) (.slice qb n2 cb)) rfl (cg_one _ _ _ _ _ _ _) fun X10 hG10 C10 => ?_
        have hb10 := hHeld.trans (C10.below hge)
        refine hK.out _ _ hb10 (fun hHeld => ?_)
        clear hK K
        refine wpAnyH_done (by kernel_rfl) ?_ _
        go_wp2_with fail
        go_meet
        case rel => exact ⟨_, _, _, _, _, rfl, hge, hG10, hCa.other hG (by decide) C10, hCb.other hG (by decide) C10, hb10⟩
      · rw [if_pos (by rfl)]
        refine alW (some 5) rfl rfl (cgC 0 (.slice none 0 0) (.slice none 0 0)) (zero_cg _) fun X9 hG bx9 => ?_
        have hge := hHeld.size
        have hCa := hCa.keep bx9
        refine hK.out _ _ (ab_trans hHeld bx9) (fun hHeld => ?_)
        clear hK K
        go_frame
        refine wpAnyH_ready (rs := [7]) (by kernel_rfl) (by simp) (AllReadyH.cons rfl (fun K hK => ?_) AllReadyH.nil)
        go_simp
        refine (marked_any _ nn _ (i2.keep hHeld) (by omega)).mono ?_
        rintro e X7 ⟨vb, rfl, hCb, bx7⟩
        obtain ⟨qb, cb, eb⟩ := hCb.is.form
        rw [hn2] at eb
        subst eb
        have hCb := hCb.less hHeld.size
        have hCa := hCa.keep bx7
        have hG := hG.keep bx7
        show K _ _
        refine hK.out _ _ (ab_trans hHeld bx7) (fun hHeld => ?_)
        clear hK K
        refine takeH (i := 8) (some 33) rfl rfl (by kernel_rfl) (by kernel_rfl) (by kernel_rfl) (fun _ _ _ h => h) (by rfl) (fun w hSw => by (try dsimp only at hSw); go_simp; try rfl) hHeld ?_
        go_frame
        refine wpAnyH_ready (rs := [10]) (by kernel_rfl) (by simp) (AllReadyH.cons rfl (fun K hK => ?_) AllReadyH.nil)
        rw [if_pos (by rfl)]
        refine stW none rfl rfl hG rfl rfl (info_cg kk (.slice qa n1 ca) (.slice qb n2 cb)) rfl (cg_one _ _ _ _ _ _ _) fun X10 hG10 C10 => ?_
        have hb10 := hHeld.trans (C10.below hge)
        refine hK.out _ _ hb10 (fun hHeld => ?_)
        clear hK K
        refine wpAnyH_done (by kernel_rfl) ?_ _
        go_wp2_with fail
        go_meet
        case rel => exact ⟨_, _, _, _, _, rfl, hge, hG10, hCa.other hG (by decide) C10, hCb.other hG (by decide) C10, hb10⟩
    · rw [if_pos (by rfl)]
      refine alW (some 5) rfl rfl (cgC 0 (.slice none 0 0) (.slice none 0 0)) (zero_cg _) fun X9 hG bx9 => ?_
      have hge := hHeld.size
      refine hK.out _ _ (ab_trans hHeld bx9) (fun hHeld => ?_)
      clear hK K
      go_frame
      refine wpAnyH_ready (rs := [4]) (by kernel_rfl) (by simp) (AllReadyH.cons rfl (fun K hK => ?_) AllReadyH.nil)
      go_simp
      refine (marked_any _ o _ (i1.keep hHeld) (by omega)).mono ?_
      rintro e X4 ⟨va, rfl, hCa, bx4⟩
      obtain ⟨qa, ca, ea⟩ := hCa.is.form
      rw [hn1] at ea
      subst ea
      have hCa := hCa.less hHeld.size
      have hG := hG.keep bx4
      show K _ _
      refine hK.out _ _ (ab_trans hHeld bx4) (fun hHeld => ?_)
      clear hK K
      refine wpAnyH_ready (rs := [7]) (by kernel_rfl) (by simp) (AllReadyH.cons rfl (fun K hK => ?_) AllReadyH.nil)
      go_simp
      refine (marked_any _ nn _ (i2.keep hHeld) (by omega)).mono ?_
      rintro e X7 ⟨vb, rfl, hCb, bx7⟩
      obtain ⟨qb, cb, eb⟩ := hCb.is.form
      rw [hn2] at eb
      subst eb
      have hCb := hCb.less hHeld.size
      have hCa := hCa.keep bx7
      have hG := hG.keep bx7
      show K _ _
      refine hK.out _ _ (ab_trans hHeld bx7) (fun hHeld => ?_)
      clear hK K
      refine takeH (i := 8) (some 33) rfl rfl (by kernel_rfl) (by kernel_rfl) (by kernel_rfl) (fun _ _ _ h => h) (by rfl) (fun w hSw => by (try dsimp only at hSw); go_simp; try rfl) hHeld ?_
      go_frame
      refine wpAnyH_ready (rs := [10]) (by kernel_rfl) (by simp) (AllReadyH.cons rfl (fun K hK => ?_) AllReadyH.nil)
      rw [if_pos (by rfl)]
      refine stW none rfl rfl hG rfl rfl (info_cg kk (.slice qa n1 ca) (.slice qb n2 cb)) rfl (cg_one _ _ _ _ _ _ _) fun X10 hG10 C10 => ?_
      have hb10 := hHeld.trans (C10.below hge)
      refine hK.out _ _ hb10 (fun hHeld => ?_)
      clear hK K
      refine wpAnyH_done (by kernel_rfl) ?_ _
      go_wp2_with fail
      go_meet
      case rel => exact ⟨_, _, _, _, _, rfl, hge, hG10, hCa.other hG (by decide) C10, hCb.other hG (by decide) C10, hb10⟩
  case rest =>
    obtain ⟨gd, qa, ca, qb, cb, rfl, hgd, hD, hCa, hCb, bwc⟩ := hcut
    have hwc := ab_trans hw1 bwc
    have hB2 := hB1.keep bwc
    clear y0 y1 y2 i1 i2 hB1
    go_wp2_with fail
    refine (marked_any _ l _ (hv.keep hwc) (by omega)).mono ?_
    rintro e W2 ⟨vv, rfl, hCv, b2⟩
    obtain ⟨qv, cv, ev⟩ := hCv.is.form
    rw [hn3] at ev
    subst ev
    have hD2 := hD.keep b2
    have hE2 := hB2.keep b2
    have hCa2 := hCa.keep b2
    have hCb2 := hCb.keep b2
    have hw2 := ab_trans hwc b2
    have hzw := hw2.size
    have hz2 : w.heap.size ≤ wc.heap.size := hwc.size
    clear hD hB2 hCa hCb
    go_upto_region 7 with fail
    obtain ⟨y0, y1, y2⟩ := cellsG hD2
    have hbv := Below.refl W2.heap.size W2
    go_wp2_with fail
    refine (gdo_any ⟨kk, o, nn⟩ _ _ _ l _ hCa2.is hCb2.is hCv.is (by omega)).mono ?_
    rintro e W3 ⟨⟨qx, nx, cx, rfl, hO3, hx3⟩, b3⟩
    have hR : (doL ⟨kk, o, nn⟩ l).length ≤ 1000 := by rcases doL_or ⟨kk, o, nn⟩ l with h | h <;> rw [h] <;> (try dsimp only) <;> omega
    obtain ⟨R, hRe⟩ : ∃ R, doL ⟨kk, o, nn⟩ l = R := ⟨_, rfl⟩
    obtain ⟨E, hEe⟩ : ∃ E, doN ⟨kk, o, nn⟩ l = E := ⟨_, rfl⟩
    rw [hRe] at hO3 hx3 hR
    rw [hEe]
    go_upto_region 8 with fail
    clear y0 y1 y2 hbv
    obtain ⟨y0, y1, y2⟩ := cellsG (hE2.keep b3)
    have hbv := Below.refl W3.heap.size W3
    have hw3 := ab_trans hw2 b3
    go_wp2_with fail
    refine (gdoR_any ⟨kk, o, nn⟩ _ _ _ l _ (ho.keep hw3) (hn.keep hw3) (hv.keep hw3)).mono ?_
    rintro e W4 ⟨⟨qy, ny, cy, rfl, hI4, hy4⟩, b4⟩
    rw [hRe] at hI4 hy4
    rw [hEe]
    clear hRe hEe
    go_upto_region 9 with fail
    clear y0 y1 y2 hbv
    have hb24 := ab_trans b3 b4
    have hO4 := hO3.keep b4
    have hD4 := hD2.keep hb24
    have hE4 := hE2.keep hb24
    have hCa4 := hCa2.keep hb24
    have hCb4 := hCb2.keep hb24
    have hCv4 := hCv.keep hb24
    have hw4 := ab_trans hw2 hb24
    have HSa : Hid (Sep (.slice qx nx cx) (.slice qa n1 ca)) := (sep_lt (fun k hk => (hCa2.lt k hk).2) (fun k hk => (hO3.lt k hk).1)).symm
    have HSb : Hid (Sep (.slice qx nx cx) (.slice qb n2 cb)) := (sep_lt (fun k hk => (hCb2.lt k hk).2) (fun k hk => (hO3.lt k hk).1)).symm
    have HSv : Hid (Sep (.slice qx nx cx) (.slice qv n3 cv)) := (sep_lt (fun k hk => (hCv.lt k hk).2) (fun k hk => (hO3.lt k hk).1)).symm
    clear hD2 hE2 hCa2 hCb2 hCv hO3 b3 b4 hb24 hw2 hw3 b2 hwc bwc hw1
    generalize W2.heap.size = s2 at *
    have D : ∀ W, Below W4.heap.size W4 W → Blk W gd (cgC kk (.slice qa n1 ca) (.slice qb n2 cb)) 24 ∧ Blk W w.heap.size (cgC kk (.slice q1 n1 c1) (.slice q2 n2 c2)) 24 := fun W hb => ⟨hD4.keep hb, hE4.keep hb⟩
    refine wp_region_held_drew (S := fun w' => Below W4.heap.size W4 w') (by kernel_rfl) (ab_drew (Below.refl _ _)) (fun hHeld => ?_)
    refine takeH (i := 0) (some 48) rfl rfl (by kernel_rfl) (by kernel_rfl) (by kernel_rfl) (fun _ _ _ h => h) (by rfl) (fun w hSw => by (try dsimp only at hSw); go_simp; try rfl) hHeld ?_
    go_frame
    refine takeH (i := 1) (some 49) rfl rfl (by kernel_rfl) (by kernel_rfl) (by kernel_rfl) (fun _ _ _ h => h) (by rfl) (fun w hSw => by (try dsimp only at hSw); go_simp; try rfl) hHeld ?_
    go_frame
    refine wpAnyH_ready (rs := [2]) (by kernel_rfl) (by simp) (AllReadyH.cons rfl (fun K hK => ?_) AllReadyH.nil)
    go_simp
    refine (gints_any _ _ R R _ (hO4.is.keep hHeld) (hI4.keep hHeld) (by omega) (by omega)).mono ?_
    rintro e Z2 ⟨rfl, bz2⟩
    rw [decide_eq_true (rfl : R = R)]
    show K _ _
    refine hK.out _ _ (ab_trans hHeld bz2) (fun hHeld => ?_)
    clear hK K
    refine takeH (i := 3) (some 51) rfl rfl (by kernel_rfl) (by kernel_rfl) (by kernel_rfl) (fun _ _ _ h => h) (by rfl) (fun w hSw => by (try dsimp only at hSw); go_simp; try rfl) hHeld ?_
    go_frame
    refine takeH (i := 4) (some 52) rfl rfl (by kernel_rfl) (by kernel_rfl) (by kernel_rfl) (fun _ _ _ h => h) (by rfl) (fun w hSw => by (try dsimp only at hSw); go_simp; try rfl) hHeld ?_
    go_frame
    refine takeH (i := 5) (some 53) rfl rfl (by kernel_rfl) (by kernel_rfl) (by kernel_rfl) (fun _ _ _ h => h) (by rfl) (fun w hSw => by (try dsimp only at hSw); go_simp; try rfl) hHeld ?_
    go_frame
    refine takeH (i := 7) (some 55) rfl rfl (by kernel_rfl) (by kernel_rfl) (by kernel_rfl) (fun _ _ _ h => h) (by rfl) (fun w hSw => by (try dsimp only at hSw); go_simp; try rfl) hHeld ?_
    go_frame
    refine wpAnyH_ready (rs := [6]) (by kernel_rfl) (by simp) (AllReadyH.cons rfl (fun K hK => ?_) AllReadyH.nil)
    go_simp
    refine (gnum_any E _).mono ?_
    rintro e Z ⟨rfl, rfl⟩
    show K _ _
    refine hK.out _ _ hHeld (fun hHeld => ?_)
    clear hK K
    refine takeH (i := 8) (some 56) rfl rfl (by kernel_rfl) (by kernel_rfl) (by kernel_rfl) (fun _ _ _ h => h) (by rfl) (fun w hSw => by (try dsimp only at hSw); go_simp; try rfl) hHeld ?_
    go_frame
    refine takeH (i := 9) (some 57) rfl rfl (by kernel_rfl) (by kernel_rfl) (by kernel_rfl) (fun _ _ _ h => h) (by rfl) (fun w hSw => by (try dsimp only at hSw); go_simp; try rfl) hHeld ?_
    go_frame
    refine takeH (i := 10) (some 58) rfl rfl (by kernel_rfl) (by kernel_rfl) (by kernel_rfl) (fun _ _ _ h => h) (by rfl) (fun w hSw => by (try dsimp only at hSw); go_simp; try rfl) hHeld ?_
    go_frame
    refine takeH (i := 11) (some 59) rfl rfl (by kernel_rfl) (by kernel_rfl) (by kernel_rfl) (fun _ _ _ h => h) (by rfl) (fun w hSw => by (try dsimp only at hSw); have hh := (D _ hSw).1; have y0 := hh.at (i := 0) rfl; have y1 := hh.at (i := 1) rfl; have y2 := hh.at (i := 2) rfl; go_simp; try rfl) hHeld ?_
    go_frame
    refine takeH (i := 14) (some 62) rfl rfl (by kernel_rfl) (by kernel_rfl) (by kernel_rfl) (fun _ _ _ h => h) (by rfl) (fun w hSw => by (try dsimp only at hSw); have hh := (D _ hSw).2; have y0 := hh.at (i := 0) rfl; have y1 := hh.at (i := 1) rfl; have y2 := hh.at (i := 2) rfl; go_simp; try rfl) hHeld ?_
    go_frame
    refine wpAnyH_ready (rs := [12]) (by kernel_rfl) (by simp) (AllReadyH.cons rfl (fun K hK => ?_) AllReadyH.nil)
    go_simp
    refine (gcheck_any kk qa n1 ca qb n2 cb _).mono ?_
    rintro e Z12 ⟨rfl, bz12⟩
    show K _ _
    refine hK.out _ _ (ab_trans hHeld bz12) (fun hHeld => ?_)
    clear hK K
    refine takeH (i := 13) (some 61) rfl rfl (by kernel_rfl) (by kernel_rfl) (by kernel_rfl) (fun _ _ _ h => h) (by rfl) (fun w hSw => by (try dsimp only at hSw); have HE1 := eq_ck kk n1 n2; have HE3 := fun x => eqg_err (ckN kk n1 n2) x; go_simp; try rfl) hHeld ?_
    go_frame
    refine wpAnyH_ready (rs := [15]) (by kernel_rfl) (by simp) (AllReadyH.cons rfl (fun K hK => ?_) AllReadyH.nil)
    go_simp
    refine (ggood_any kk q1 n1 c1 q2 n2 c2 _).mono ?_
    rintro e Z15 ⟨rfl, bz15⟩
    show K _ _
    refine hK.out _ _ (ab_trans hHeld bz15) (fun hHeld => ?_)
    clear hK K
    have hne := bne_b (gdC kk n1 n2)
    refine takeH (i := 16) (some 64) rfl rfl (by kernel_rfl) (by kernel_rfl) (by kernel_rfl) (fun _ _ _ h => h) (by rfl) (fun w hSw => by (try dsimp only at hSw); go_simp; try rfl) hHeld ?_
    go_frame
    refine takeH (i := 17) (some 65) rfl rfl (by kernel_rfl) (by kernel_rfl) (by kernel_rfl) (fun _ _ _ h => h) (by rfl) (fun w hSw => by (try dsimp only at hSw); go_simp; try rfl) hHeld ?_
    go_frame
    refine wpAnyH_done (by kernel_rfl) ?_ _
    go_upto_region 11 with fail
    have OZ := hO4.keep hHeld
    obtain ⟨hDZ, hEZ⟩ := D _ hHeld
    have KA := hCa4.keep hHeld
    have KB := hCb4.keep hHeld
    have KV := hCv4.keep hHeld
    have HW : Hid (Below w.heap.size w Z15) := ab_trans hw4 hHeld
    clear hHeld hO4 D hD4 hE4 hCa4 hCb4 hCv4 hI4 hne hw4
    have hxl : nx ≤ 1000 := by omega
    unfold Io at OZ
    rw [hx3] at OZ
    generalize Z15 = Z at *
    go_wp2_with fail
    go_loopw [68] (fun i wr => ∃ (j : Nat) (ys : List Int), j ≤ nx ∧ i = .int .i64 (j : Int) ∧ wr.ownsRow s2 3 1 (.slice qx nx cx) nx (ints ys) ∧ Onl (.slice qx nx cx) Z wr) (fun i _ => nx - (intOf i).toNat)
    case atStart => exact ⟨0, R, by omega, rfl, OZ, Onl.refl _ _⟩
    case round =>
      obtain ⟨j, ys, hj, rfl, h, hk1⟩ := hrel
      by_cases cj : j = nx
      · subst cj
        have hDY := hk1.blk hDZ (blk_own OZ hDZ (by decide))
        have hEY := hk1.blk hEZ (blk_own OZ hEZ (by decide))
        have KA1 := hk1.cn KA HSa.out
        have KB1 := hk1.cn KB HSb.out
        have KV1 := hk1.cn KV HSv.out
        have b1 := hk1.below (n := w.heap.size) (fun g hg => by have := (World.ownsRow.lt OZ g hg).1; omega)
        have hwY := HW.out.trans b1
        have I1 := ho.keep hwY
        have I2 := hn.keep hwY
        have I3 := hv.keep hwY
        clear h hk1 hDZ hEZ KA KB KV OZ b1 HW ho hn hv HSa HSb HSv
        generalize wr = Y at *
        obtain ⟨y0, y1, y2⟩ := cellsG hDY
        obtain ⟨z0, z1, z2⟩ := cellsG hEY
        have hbv := Below.refl Y.heap.size Y
        go_wp2_with fail
        refine (stands_any _ _ o _ _ KA1 I1 (by omega)).mono ?_
        rintro e Y1 ⟨rfl, by1⟩
        have hbv := ab_trans hbv by1
        go_wp2_with fail
        refine (stands_any _ _ nn _ _ (KB1.keep hbv) (I2.keep hbv) (by omega)).mono ?_
        rintro e Y2 ⟨rfl, by2⟩
        have hbv := ab_trans hbv by2
        go_wp2_with fail
        refine (stands_any _ _ l _ _ (KV1.keep hbv) (I3.keep hbv) (by omega)).mono ?_
        rintro e Y3 ⟨rfl, by3⟩
        have hbv := ab_trans hbv by3
        go_wp2_with fail
        go_ret
        exact ⟨rfl, ab_trans hwY hbv⟩
      · clear hDZ hEZ KA KB KV OZ HW ho hn hv HSa HSb HSv
        have hjn : j < nx := by omega
        have hji : (j : Int) < (nx : Int) := by omega
        obtain ⟨gg, cap, ee, hbb, hgg, hcc, hmm, -⟩ := own_cells h (fun e => by cases e; omega)
        cases ee
        have hys := owns_len h
        have d := h.cellAt j (by omega)
        have fz := h.frozenAt j
        obtain ⟨z, hzz⟩ : ∃ z, ys[j]? = some z := ⟨ys[j], List.getElem?_eq_getElem (by omega)⟩
        have hu9 : (ints ys)[j]? = some (.int .i64 z) := by rw [ints_at, hzz]; rfl
        rw [hu9] at d
        go_wp2_with fail
        have hst := (h.stored j (.int .i64 (-1))).1
        rw [show (ints ys).set j (.int .i64 (-1)) = ints (ys.set j (-1)) from by simp [ints, List.map_set]] at hst
        exact ⟨⟨j + 1, _, by omega, rfl, hst, hk1.set rfl _ _⟩, by simp only [intOf]; omega⟩
theorem walk {W : World} (x : CgD) (ho : IsZ W x.vo x.o) (hn : IsZ W x.vn x.n) (v : Value) (l : List Int) (hv : IsZ W v l) :
    Calls Try.prog 3 #[cgV x.k x.vo x.vn, v] W fun e w' => e = .returned (.bool true) ∧ Below W.heap.size W w' :=
  does_walk x v l W ho hn hv
theorem own : ownKnob Try.prog.godebug = none := by kernel_rfl
theorem laidOut : laidOutB Try.prog = true := by kernel_rfl

set_option maxRecDepth 100000 in
theorem lifted (os : Os) (started : os.Started) (H : Type) (enc : TypeId × Value → H) :
    ReturnsInHanded {} Try.checked os 3 .any (Rows.changeDoesSpec.pre6 enc Try.prog Try.f3 Rows.changeDoesRow.domain false) (Rows.changeDoesSpec.post enc Try.prog Try.f3 false true false false) := by
  refine returnsInHanded_of_change_sized (C := Try.checked) own started (by kernel_rfl) Try.func3
    (ChangeSpec.witness6 (enc := enc) (C := Try.checked) false ⟨#[], #[.agg #[.int .i64 0, .slice none 0 0, .slice none 0 0], .slice none 0 0], []⟩ 8 (by kernel_rfl) (by kernel_rfl) (by kernel_rfl) (by kernel_rfl)) ?_
  intro W base args ds gs before hval0 hW hcnd hsz _
  have hval : ∀ (j : Nat) t v, Try.f3.params[j]? = some t → args[j]? = some v → Value.okWide Try.prog W .any base t v := hval0
  have hW' := hW
  obtain ⟨p, q, hA0, hV, rfl, hfz, hnd⟩ := hW
  have hA : DataW.TrodAll enc Try.prog W 0 (fun _ => true) true Try.f3.params.toList args.toList ds p := hA0
  rw [Try.params3] at hA hval
  obtain ⟨v0, vs0, d0, ds0, p0, q0, hargs, rfl, rfl, h0, r0⟩ := trodAll_cons hA
  obtain ⟨v1, vs1, d1, ds1, p1, q1, rfl, rfl, rfl, h1, r1⟩ := trodAll_cons r0
  obtain ⟨rfl, rfl, rfl⟩ := trodAll_nil r1
  obtain rfl : args = #[v0, v1] := by cases args; simp_all
  obtain ⟨rfl, rfl⟩ := trodVars_none hV
  have k0 := h0
  have lt0 : ∀ x ∈ p0, x.block < W.heap.size := by obtain ⟨m, hm⟩ := k0; exact DataW.trod_lt m _ _ _ hm
  have k1 := h1
  have lt1 : ∀ x ∈ p1, x.block < W.heap.size := by obtain ⟨m, hm⟩ := k1; exact DataW.trod_lt m _ _ _ hm
  obtain ⟨x0_, rfl, zo0_, zn0_⟩ := open_change (hval 0 24 v0 rfl rfl) h0 (fun n hn => by simpa using List.all_eq_true.1 hsz n (DataW.weights_mem_each (j := 0) (t := 24) (by kernel_rfl) rfl n hn))
  obtain ⟨l1_, Z1_⟩ := open_numsZ (hval 1 22 v1 rfl rfl) h1 (fun n hn => by simpa using List.all_eq_true.1 hsz n (DataW.weights_mem_each (j := 1) (t := 22) (by kernel_rfl) rfl n hn))
  clear hA0 hval0
  refine (walk x0_ zo0_ zn0_ v1 l1_ Z1_).mono fun e W' ⟨he, bel⟩ => ?_
  subst he
  exact ⟨_, rfl, _, _, _, [], _, [], hW', trodAll_mk1 (shut_bool Try.underlying4 _), (trodAll_cons_mk (Below.trod laidOut (by kernel_rfl) (of_decide_eq_true (by kernel_rfl)) k0 bel lt0) (trodAll_cons_mk (Below.trod laidOut (by kernel_rfl) (of_decide_eq_true (by kernel_rfl)) k1 bel lt1) trodAll_mk0)), rfl, bel.frame _, fun h => by cases h⟩

theorem over : Rows.changeDoesRow.holds Try.pinned (OpenSpec.ofChange Rows.changeDoesSpec) :=
  OpenClaim.holds_of_wide 3 Try.f3 rfl rfl rfl rfl rfl rfl rfl ⟨rfl, rfl, rfl, rfl, rfl⟩ rfl rfl rfl rfl rfl (by kernel_rfl) Try.func3 (by kernel_rfl)
    (of_decide_eq_true (by kernel_rfl)) (by unfold Func.isWrapper; first | (rw [if_pos (by decide +kernel)]; kernel_rfl) | (rw [if_neg (by decide +kernel)]; exact ⟨rfl, rfl⟩))
    (fun os started H enc _ => lifted os started H enc)

theorem proved : Rows.ChangeDoesSaid := over
end Go.Proofs.Ytjmdekddkpadeaa.changeDoes
namespace Go.Proofs.Ytjmdekddkpadeaa
theorem changeDoes_holds : Rows.ChangeDoesSaid := changeDoes.proved
#print axioms changeDoes_holds
end Go.Proofs.Ytjmdekddkpadeaa
