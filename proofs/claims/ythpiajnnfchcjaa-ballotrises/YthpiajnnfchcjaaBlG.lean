/-
  Copies of registers, with a mark behind their values: estuarylaw09.copied, kept.
-/
import Derived.Test.YthpiajnnfchcjaaBlE
import Derived.Deep.CutRange
namespace Go.Proofs.Ythpiajnnfchcjaa
open Go.RowKit
set_option linter.unusedVariables false

set_option maxHeartbeats 4000000 in
set_option maxRecDepth 100000 in
theorem copied9_any (p a : Bt) (v : Value) (l : List Int) (w : World) (hv : Is w v l) (hl : l.length ≤ 100000) :
    Calls Try.prog 12 #[rV p a v] w fun e w' => ∃ u, e = .returned (rV p a u) ∧ Cn w' w.heap.size u l ∧ Below w.heap.size w w' := by
  obtain ⟨q, c, e⟩ := hv.form
  subst e
  obtain ⟨n, hn⟩ : ∃ n, l.length = n := ⟨_, rfl⟩
  rw [hn] at hv hl ⊢
  go_enter Try.func12, Try.ntmps12
  go_upto_region 1 with fail
  obtain ⟨V, hAe, hP, hR, hA⟩ := blk2 w (rC p a (.slice q n c)) (rC zB zB (.slice none 0 0)) 31 31
  rw [show (w.alloc (.cells (rC p a (.slice q n c)) 31)).alloc (.cells #[.int .i64 0, .int .i64 0, .int .i64 0, .int .i64 0, .int .i64 0, .int .i64 0, .slice none 0 0] 31) = V from hAe]
  clear hAe
  have i1 := hv.keep hA
  have hzV : w.heap.size + 1 < V.heap.size := hR.lt
  have DP : ∀ W, Below V.heap.size V W → W.cell? ⟨w.heap.size, 6, none⟩ = some (.slice q n c) ∧ W.frozen? ⟨w.heap.size, 6, none⟩ = false := fun W hb => ⟨(hP.keep hb).at rfl, (hP.keep hb).frozen 6⟩
  have x1 : IntKind.i64.wrap ((n : Int) + 1) = (n : Int) + 1 := by simp [IntKind.wrap, IntKind.signed, IntKind.bits] <;> omega
  go_cut [] from 3 to 17 (fun wc => ∃ un, Cn wc V.heap.size un l ∧ Blk wc w.heap.size (rC p a un) 31 ∧ Blk wc (w.heap.size + 1) (rC zB zB (.slice none 0 0)) 31 ∧ Below w.heap.size w wc)
  case first =>
    refine region_L 15 (S := fun w' => Below V.heap.size V w') (by kernel_rfl) (ab_drew (Below.refl _ _)) (fun hHeld => ?_)
    refine takeL (i := 0) [1, 2, 3, 4, 7, 9, 13, 15] (some 3) (by rfl) rfl rfl (by kernel_rfl) (by kernel_rfl) (by kernel_rfl) (by kernel_rfl) (fun _ _ _ h => h) (by rfl) (fun w hSw => by (try dsimp only at hSw); go_simp; try rfl) hHeld ?_
    go_frame
    refine takeL (i := 1) [2, 3, 4, 7, 9, 13, 15] (some 4) (by rfl) rfl rfl (by kernel_rfl) (by kernel_rfl) (by kernel_rfl) (by kernel_rfl) (fun _ _ _ h => h) (by rfl) (fun w hSw => by (try dsimp only at hSw); (have hcc := (DP _ hSw).1; go_simp; try rfl)) hHeld ?_
    go_frame
    refine takeL (i := 2) [3, 4, 7, 9, 13, 15] (some 5) (by rfl) rfl rfl (by kernel_rfl) (by kernel_rfl) (by kernel_rfl) (by kernel_rfl) (fun _ _ _ h => h) (by rfl) (fun w hSw => by (try dsimp only at hSw); go_simp; try rfl) hHeld ?_
    go_frame
    refine takeL (i := 3) [4, 7, 9, 13, 15] (some 6) (by rfl) rfl rfl (by kernel_rfl) (by kernel_rfl) (by kernel_rfl) (by kernel_rfl) (fun _ _ _ h => h) (by rfl) (fun w hSw => by (try dsimp only at hSw); go_simp; try rfl) hHeld ?_
    go_frame
    refine takeL (i := 5) [6, 7, 9, 13, 15] (some 8) (by rfl) rfl rfl (by kernel_rfl) (by kernel_rfl) (by kernel_rfl) (by kernel_rfl) (fun _ _ _ h => h) (by rfl) (fun w hSw => by (try dsimp only at hSw); go_simp; try rfl) hHeld ?_
    go_frame
    refine takeL (i := 6) [7, 9, 13, 15] (some 9) (by rfl) rfl rfl (by kernel_rfl) (by kernel_rfl) (by kernel_rfl) (by kernel_rfl) (fun _ _ _ h => h) (by rfl) (fun w hSw => by (try dsimp only at hSw); (have hcc := (DP _ hSw).1; go_simp; try rfl)) hHeld ?_
    go_frame
    refine takeL (i := 10) [11, 12, 13, 15] (some 13) (by rfl) rfl rfl (by kernel_rfl) (by kernel_rfl) (by kernel_rfl) (by kernel_rfl) (fun _ _ _ h => h) (by rfl) (fun w hSw => by (try dsimp only at hSw); go_simp; try rfl) hHeld ?_
    go_frame
    refine takeL (i := 11) [12, 13, 15] (some 14) (by rfl) rfl rfl (by kernel_rfl) (by kernel_rfl) (by kernel_rfl) (by kernel_rfl) (fun _ _ _ h => h) (by rfl) (fun w hSw => by (try dsimp only at hSw); (have hcc := (DP _ hSw).1; go_simp; try rfl)) hHeld ?_
    go_frame
    refine takeL (i := 12) [13, 15] (some 15) (by rfl) rfl rfl (by kernel_rfl) (by kernel_rfl) (by kernel_rfl) (by kernel_rfl) (fun _ _ _ h => h) (by rfl) (fun w hSw => by (try dsimp only at hSw); go_simp; try rfl) hHeld ?_
    go_frame
    refine anyL_ready (rs := [4, 8]) (by kernel_rfl) (by simp) ?_
    refine AllL.cons rfl (fun K hK => ?_) (AllL.cons rfl (fun K hK => ?_) AllL.nil)
    · rw [if_pos (by rfl)]
      refine mkW V (some 7) rfl rfl (c := n + 1) rfl rfl (by omega) (by omega) hHeld ?_
      intro v1 W1 own1 nn1 bV1
      refine hK.out _ _ bV1 (fun hHeld => ?_)
      clear hK K
      go_frame
      refine anyL_ready (rs := [7, 8]) (by kernel_rfl) (by simp) ?_
      refine AllL.cons rfl (fun K hK => ?_) (AllL.cons rfl (fun K hK => ?_) AllL.nil)
      · rw [if_pos (by rfl)]
        refine appiW V (some 10) rfl rfl rfl own1 rfl (i1.keep hHeld) hn (by omega) hHeld ?_
        intro v2 W2 own2 nn2 bV2 gr2
        refine hK.out _ _ bV2 (fun hHeld => ?_)
        clear hK K
        go_frame
        refine anyL_ready (rs := [8]) (by kernel_rfl) (by simp) (AllL.cons rfl (fun K hK => ?_) AllL.nil)
        rw [if_pos (by rfl)]
        refine bs_iW (some 11) rfl rfl [-77] (by simp only [List.map_toArray, List.map_cons, List.map_nil]; rfl) (isl1 _ _) rfl (by decide) fun W3 own3 b3 => ?_
        refine hK.out _ _ (ab_trans hHeld b3) (fun hHeld => ?_)
        clear hK K
        go_frame
        have ownT := own_keep own2 b3
        have isT := own_is own3
        refine anyL_ready (rs := [9]) (by kernel_rfl) (by simp) (AllL.cons rfl (fun K hK => ?_) AllL.nil)
        rw [if_pos (by rfl)]
        refine appiW V (some 12) rfl rfl rfl ownT rfl isT (k := 1) rfl (by omega) hHeld ?_
        intro v4 W4 own4 nn4 bV4 gr4
        obtain ⟨g4, cap4, e4, hb4, hl4, hc4, -, -⟩ := own_cells own4 (fun e => absurd (nn4.1 e).2 (by simp))
        subst e4
        refine hK.out _ _ bV4 (fun hHeld => ?_)
        clear hK K
        go_frame
        refine takeL (i := 13) [15] (some 16) (by rfl) rfl rfl (by kernel_rfl) (by kernel_rfl) (by kernel_rfl) (by kernel_rfl) (fun _ _ _ h => h) (by rfl) (fun w hSw => by (try dsimp only at hSw); exact sli_h_run rfl rfl rfl rfl (by omega)) hHeld ?_
        go_frame
        rw [sliced_0]
        refine takeL (i := 14) [15] (some 17) (by rfl) rfl rfl (by kernel_rfl) (by kernel_rfl) (by kernel_rfl) (by kernel_rfl) (fun _ _ _ h => h) (by rfl) (fun w hSw => by (try dsimp only at hSw); go_simp; try rfl) hHeld ?_
        go_frame
        obtain ⟨p6, f6⟩ := DP _ hHeld
        refine anyL_ready (rs := [15]) (by kernel_rfl) (by simp) (AllL.last rfl (by kernel_rfl) (fun K hK => ?_))
        go_simp
        refine hK.out _ _ ?_
        clear hK K
        refine anyL_done (by kernel_rfl) ?_
        go_wp2_with fail
        go_meet
        case rel => exact ⟨_, (copied_cn own4 hn).chg (chg_set _ _ 6 _) (by omega), (hP.keep bV4).set 6 _, (hR.keep bV4).chg (chg_set _ _ 6 _) (by omega), ab_chg (ab_trans hA bV4) (chg_set _ _ 6 _) (Nat.le_refl _)⟩
      · rw [if_pos (by rfl)]
        refine bs_iW (some 11) rfl rfl [-77] (by simp only [List.map_toArray, List.map_cons, List.map_nil]; rfl) (isl1 _ _) rfl (by decide) fun W2 own3 b3 => ?_
        have own1b := own_keep own1 b3
        have hsep : Sep (.slice (some ⟨W1.heap.size, 0, none⟩) 1 1) v1 := sep_old own1 rfl
        refine hK.out _ _ (ab_trans hHeld b3) (fun hHeld => ?_)
        clear hK K
        go_frame
        refine anyL_ready (rs := [7]) (by kernel_rfl) (by simp) (AllL.cons rfl (fun K hK => ?_) AllL.nil)
        rw [if_pos (by rfl)]
        refine appiW V (some 10) rfl rfl rfl own1b rfl (i1.keep hHeld) hn (by omega) hHeld ?_
        intro v2 W3 own2 nn2 bV2 gr2
        refine hK.out _ _ bV2 (fun hHeld => ?_)
        clear hK K
        go_frame
        have ownT := own2
        have isT := ((io_of own3).kept gr2 hsep).is
        refine anyL_ready (rs := [9]) (by kernel_rfl) (by simp) (AllL.cons rfl (fun K hK => ?_) AllL.nil)
        rw [if_pos (by rfl)]
        refine appiW V (some 12) rfl rfl rfl ownT rfl isT (k := 1) rfl (by omega) hHeld ?_
        intro v4 W4 own4 nn4 bV4 gr4
        obtain ⟨g4, cap4, e4, hb4, hl4, hc4, -, -⟩ := own_cells own4 (fun e => absurd (nn4.1 e).2 (by simp))
        subst e4
        refine hK.out _ _ bV4 (fun hHeld => ?_)
        clear hK K
        go_frame
        refine takeL (i := 13) [15] (some 16) (by rfl) rfl rfl (by kernel_rfl) (by kernel_rfl) (by kernel_rfl) (by kernel_rfl) (fun _ _ _ h => h) (by rfl) (fun w hSw => by (try dsimp only at hSw); exact sli_h_run rfl rfl rfl rfl (by omega)) hHeld ?_
        go_frame
        rw [sliced_0]
        refine takeL (i := 14) [15] (some 17) (by rfl) rfl rfl (by kernel_rfl) (by kernel_rfl) (by kernel_rfl) (by kernel_rfl) (fun _ _ _ h => h) (by rfl) (fun w hSw => by (try dsimp only at hSw); go_simp; try rfl) hHeld ?_
        go_frame
        obtain ⟨p6, f6⟩ := DP _ hHeld
        refine anyL_ready (rs := [15]) (by kernel_rfl) (by simp) (AllL.last rfl (by kernel_rfl) (fun K hK => ?_))
        go_simp
        refine hK.out _ _ ?_
        clear hK K
        refine anyL_done (by kernel_rfl) ?_
        go_wp2_with fail
        go_meet
        case rel => exact ⟨_, (copied_cn own4 hn).chg (chg_set _ _ 6 _) (by omega), (hP.keep bV4).set 6 _, (hR.keep bV4).chg (chg_set _ _ 6 _) (by omega), ab_chg (ab_trans hA bV4) (chg_set _ _ 6 _) (Nat.le_refl _)⟩
    · rw [if_pos (by rfl)]
      refine bs_iW (some 11) rfl rfl [-77] (by simp only [List.map_toArray, List.map_cons, List.map_nil]; rfl) (isl1 _ _) rfl (by decide) fun W1 own3 b3 => ?_
      have zV1 : V.heap.size ≤ W1.heap.size := Nat.le_trans hHeld.size b3.size
      have bV1 := ab_trans hHeld b3
      refine hK.out _ _ bV1 (fun hHeld => ?_)
      clear hK K
      go_frame
      refine anyL_ready (rs := [4]) (by kernel_rfl) (by simp) (AllL.cons rfl (fun K hK => ?_) AllL.nil)
      rw [if_pos (by rfl)]
      refine mkW W1 (some 7) rfl rfl (c := n + 1) rfl rfl (by omega) (by omega) (Below.refl _ _) ?_
      intro v1 W2 own1 nn1 b12
      refine hK.out _ _ (ab_trans bV1 b12) (fun hHeld => ?_)
      clear hK K
      go_frame
      refine anyL_ready (rs := [7]) (by kernel_rfl) (by simp) (AllL.cons rfl (fun K hK => ?_) AllL.nil)
      rw [if_pos (by rfl)]
      refine appiW W1 (some 10) rfl rfl rfl own1 rfl (i1.keep hHeld) hn (by omega) b12 ?_
      intro v2 W3 own2 nn2 b13 gr2
      refine hK.out _ _ (ab_trans bV1 b13) (fun hHeld => ?_)
      clear hK K
      go_frame
      have ownT := own_less own2 zV1
      have isT := (own_is own3).keep b13
      refine anyL_ready (rs := [9]) (by kernel_rfl) (by simp) (AllL.cons rfl (fun K hK => ?_) AllL.nil)
      rw [if_pos (by rfl)]
      refine appiW V (some 12) rfl rfl rfl ownT rfl isT (k := 1) rfl (by omega) hHeld ?_
      intro v4 W4 own4 nn4 bV4 gr4
      obtain ⟨g4, cap4, e4, hb4, hl4, hc4, -, -⟩ := own_cells own4 (fun e => absurd (nn4.1 e).2 (by simp))
      subst e4
      refine hK.out _ _ bV4 (fun hHeld => ?_)
      clear hK K
      go_frame
      refine takeL (i := 13) [15] (some 16) (by rfl) rfl rfl (by kernel_rfl) (by kernel_rfl) (by kernel_rfl) (by kernel_rfl) (fun _ _ _ h => h) (by rfl) (fun w hSw => by (try dsimp only at hSw); exact sli_h_run rfl rfl rfl rfl (by omega)) hHeld ?_
      go_frame
      rw [sliced_0]
      refine takeL (i := 14) [15] (some 17) (by rfl) rfl rfl (by kernel_rfl) (by kernel_rfl) (by kernel_rfl) (by kernel_rfl) (fun _ _ _ h => h) (by rfl) (fun w hSw => by (try dsimp only at hSw); go_simp; try rfl) hHeld ?_
      go_frame
      obtain ⟨p6, f6⟩ := DP _ hHeld
      refine anyL_ready (rs := [15]) (by kernel_rfl) (by simp) (AllL.last rfl (by kernel_rfl) (fun K hK => ?_))
      go_simp
      refine hK.out _ _ ?_
      clear hK K
      refine anyL_done (by kernel_rfl) ?_
      go_wp2_with fail
      go_meet
      case rel => exact ⟨_, (copied_cn own4 hn).chg (chg_set _ _ 6 _) (by omega), (hP.keep bV4).set 6 _, (hR.keep bV4).chg (chg_set _ _ 6 _) (by omega), ab_chg (ab_trans hA bV4) (chg_set _ _ 6 _) (Nat.le_refl _)⟩
  case rest =>
    obtain ⟨un, cn1, hB1, hR1, bw1⟩ := hcut
    obtain ⟨qu, cu, eu⟩ := cn1.is.form
    rw [hn] at eu
    subst eu
    obtain ⟨c0, c1, c2, c3, c4, c5, c6⟩ := cells7 hB1
    have hbv := Below.refl wc.heap.size wc
    have HC : Hid (Cn wc V.heap.size (.slice qu n cu) l) := cn1
    clear DP hP hR i1 hv hA x1 cn1
    go_wp2_with (refine st_rg rfl rfl (p1 := p) (a1 := a) hR1 rfl rfl ?_; intro W5 hB5 C5)
    exact bodyPost_ret (results_cell_row rfl _ _ _ 31 _ (0, 0) _ rfl hB5 Try.underlying31 rfl (info_rg p a _)) rfl ⟨_, rfl, (HC.out.chg C5 (by omega)).less (by omega), ab_chg bw1 C5 (by omega)⟩
theorem same9_yes (r : Rg) (v u : Value) (w : World) (hv : Is w v r.l) (hu : Is w u r.l) (hl : r.l.length ≤ 100000) :
    Calls Try.prog 17 #[rV r.p r.a v, rV r.p r.a u] w fun e w' => e = .returned (.bool true) ∧ Below w.heap.size w w' := by
  have := same9_any r r v u w hv hu hl
  rwa [smR_self] at this
set_option maxHeartbeats 1000000 in
set_option maxRecDepth 100000 in
theorem kept9_any (r : Rg) (v u : Value) (base : Nat) (w : World) (hv : Cn w base v r.l) (hu : Is w u r.l) (hl : r.l.length ≤ 100000) :
    Calls Try.prog 21 #[rV r.p r.a v, rV r.p r.a u] w fun e w' => e = .returned (.bool true) ∧ Below w.heap.size w w' := by
  obtain ⟨hi, g, cap, e, hcap, hcell⟩ := hv.open
  subst e
  obtain ⟨q2, c2, e⟩ := hu.form
  subst e
  have hg : g < w.heap.size := by
    obtain ⟨g', cap', e, h1⟩ := hv
    cases e
    exact (World.ownsRow.lt h1 g rfl).2
  obtain ⟨n, hn⟩ : ∃ n, r.l.length = n := ⟨_, rfl⟩
  rw [hn] at hi hu hcap hcell hl ⊢
  go_enter Try.func21, Try.ntmps21
  go_upto_region 1 with fail
  obtain ⟨V, hAe, hP, hR, hA⟩ := blk2 w (rC r.p r.a (.slice (some ⟨g, 0, none⟩) n cap)) (rC r.p r.a (.slice q2 n c2)) 31 31
  rw [hAe]
  clear hAe
  have hiV := hi.keep hA
  have huV := hu.keep hA
  have hcV : V.cell? ⟨g, n, none⟩ = some (.int .i64 (-77)) := keep_cell hA hcell hg
  have hgV : g < V.heap.size := Nat.lt_of_lt_of_le hg hA.size
  have x1 : IntKind.i64.wrap ((n : Int) + 1) = (n : Int) + 1 := by simp [IntKind.wrap, IntKind.signed, IntKind.bits] <;> omega
  obtain ⟨c0, c1, c2', c3, c4, c5, c6⟩ := cells7 hP
  obtain ⟨d0, d1, d2, d3, d4, d5, d6⟩ := cells7 hR
  refine wp_region_held_drew (S := fun w' => Below V.heap.size V w') (by kernel_rfl) (ab_drew (Below.refl _ _)) (fun hHeld => ?_)
  refine takeH (i := 0) (some 5) rfl rfl (by kernel_rfl) (by kernel_rfl) (by kernel_rfl) (fun _ _ _ h => h) (by rfl) (fun w hSw => by (try dsimp only at hSw); have y0 := c0 _ hSw; have y1 := c1 _ hSw; have y2 := c2' _ hSw; have y3 := c3 _ hSw; have y4 := c4 _ hSw; have y5 := c5 _ hSw; have y6 := c6 _ hSw; go_simp; try rfl) hHeld ?_
  go_frame
  refine takeH (i := 1) (some 6) rfl rfl (by kernel_rfl) (by kernel_rfl) (by kernel_rfl) (fun _ _ _ h => h) (by rfl) (fun w hSw => by (try dsimp only at hSw); have y0 := d0 _ hSw; have y1 := d1 _ hSw; have y2 := d2 _ hSw; have y3 := d3 _ hSw; have y4 := d4 _ hSw; have y5 := d5 _ hSw; have y6 := d6 _ hSw; go_simp; try rfl) hHeld ?_
  go_frame
  refine wpAnyH_ready (rs := [2]) (by kernel_rfl) (by simp) (AllReadyH.cons rfl (fun K hK => ?_) AllReadyH.nil)
  go_simp
  refine (same9_yes r _ _ _ (hiV.keep hHeld) (huV.keep hHeld) (by omega)).mono ?_
  rintro e W3 ⟨rfl, b3⟩
  show K _ _
  refine hK.out _ _ (ab_trans hHeld b3) (fun hHeld => ?_)
  clear hK K
  refine takeH (i := 3) (some 8) rfl rfl (by kernel_rfl) (by kernel_rfl) (by kernel_rfl) (fun _ _ _ h => h) (by rfl) (fun w hSw => by (try dsimp only at hSw); go_simp; try rfl) hHeld ?_
  go_frame
  refine takeH (i := 4) (some 9) rfl rfl (by kernel_rfl) (by kernel_rfl) (by kernel_rfl) (fun _ _ _ h => h) (by rfl) (fun w hSw => by (try dsimp only at hSw); go_simp; try rfl) hHeld ?_
  go_frame
  refine takeH (i := 5) (some 10) rfl rfl (by kernel_rfl) (by kernel_rfl) (by kernel_rfl) (fun _ _ _ h => h) (by rfl) (fun w hSw => by (try dsimp only at hSw); have y6 := c6 _ hSw; go_simp; try rfl) hHeld ?_
  go_frame
  refine takeH (i := 6) (some 11) rfl rfl (by kernel_rfl) (by kernel_rfl) (by kernel_rfl) (fun _ _ _ h => h) (by rfl) (fun w hSw => by (try dsimp only at hSw); go_simp; try rfl) hHeld ?_
  go_frame
  refine takeH (i := 7) (some 12) rfl rfl (by kernel_rfl) (by kernel_rfl) (by kernel_rfl) (fun _ _ _ h => h) (by rfl) (fun w hSw => by (try dsimp only at hSw); have y6 := c6 _ hSw; go_simp; try rfl) hHeld ?_
  go_frame
  refine takeH (i := 8) (some 13) rfl rfl (by kernel_rfl) (by kernel_rfl) (by kernel_rfl) (fun _ _ _ h => h) (by rfl) (fun w hSw => by (try dsimp only at hSw); go_simp; try rfl) hHeld ?_
  go_frame
  refine takeH (i := 9) (some 14) rfl rfl (by kernel_rfl) (by kernel_rfl) (by kernel_rfl) (fun _ _ _ h => h) (by rfl) (fun w hSw => by (try dsimp only at hSw); go_simp; try rfl) hHeld ?_
  go_frame
  refine takeH (i := 10) (some 15) rfl rfl (by kernel_rfl) (by kernel_rfl) (by kernel_rfl) (fun _ _ _ h => h) (by rfl) (fun w hSw => by (try dsimp only at hSw); exact sli_h_run (j := n + 1) rfl rfl rfl (by first | rfl | omega | (push_cast; omega)) (by omega)) hHeld ?_
  go_frame
  rw [sliced_0]
  refine takeH (i := 11) (some 16) rfl rfl (by kernel_rfl) (by kernel_rfl) (by kernel_rfl) (fun _ _ _ h => h) (by rfl) (fun w hSw => by (try dsimp only at hSw); go_simp; try rfl) hHeld ?_
  go_frame
  refine takeH (i := 12) (some 17) rfl rfl (by kernel_rfl) (by kernel_rfl) (by kernel_rfl) (fun _ _ _ h => h) (by rfl) (fun w hSw => by (try dsimp only at hSw); have y6 := c6 _ hSw; go_simp; try rfl) hHeld ?_
  go_frame
  refine takeH (i := 13) (some 18) rfl rfl (by kernel_rfl) (by kernel_rfl) (by kernel_rfl) (fun _ _ _ h => h) (by rfl) (fun w hSw => by (try dsimp only at hSw); go_simp; try rfl) hHeld ?_
  go_frame
  refine takeH (i := 14) (some 19) rfl rfl (by kernel_rfl) (by kernel_rfl) (by kernel_rfl) (fun _ _ _ h => h) (by rfl) (fun w hSw => by (try dsimp only at hSw); go_simp; exact if_pos (by omega)) hHeld ?_
  go_frame
  refine takeH (i := 15) (some 20) rfl rfl (by kernel_rfl) (by kernel_rfl) (by kernel_rfl) (fun _ _ _ h => h) (by rfl) (fun w hSw => by (try dsimp only at hSw); have y6 := keep_cell hSw hcV hgV; go_simp; try rfl) hHeld ?_
  go_frame
  refine takeH (i := 16) (some 21) rfl rfl (by kernel_rfl) (by kernel_rfl) (by kernel_rfl) (fun _ _ _ h => h) (by rfl) (fun w hSw => by (try dsimp only at hSw); go_simp; try rfl) hHeld ?_
  go_frame
  refine takeH (i := 17) (some 22) rfl rfl (by kernel_rfl) (by kernel_rfl) (by kernel_rfl) (fun _ _ _ h => h) (by rfl) (fun w hSw => by (try dsimp only at hSw); go_simp; try rfl) hHeld ?_
  go_frame
  refine takeH (i := 18) (some 4) rfl rfl (by kernel_rfl) (by kernel_rfl) (by kernel_rfl) (fun _ _ _ h => h) (by rfl) (fun w hSw => by (try dsimp only at hSw); go_simp; try rfl) hHeld ?_
  go_frame
  refine wpAnyH_done (by kernel_rfl) ?_ _
  go_wp2_with fail
  go_ret
  exact ⟨rfl, ab_trans hA hHeld⟩
end Go.Proofs.Ythpiajnnfchcjaa
