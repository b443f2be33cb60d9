/-
  The document's Take.
-/
import Derived.Test.YthpiajnnfchcjaaBlI
namespace Go.Proofs.Ythpiajnnfchcjaa
open Go.RowKit
set_option linter.unusedVariables false

theorem rtake9_short (v : Value) (l : List Int) (w : World) (hv : Is w v l) (h6 : ¬ 6 ≤ l.length) :
    Calls Try.prog 26 #[v] w fun e w' => RgI w' (tkR l) (.bool (tkB l)) e ∧ Below w.heap.size w w' := by
  obtain ⟨q, c, e⟩ := hv.form
  subst e
  have HB : Hid (tkB l = false) := tkB_short h6
  have h6' : (l.length : Int) < 6 := by omega
  generalize l.length = n at *
  go_enter Try.func26, Try.ntmps26
  go_upto_region 1 with fail
  obtain ⟨A, hAe, hB, hw⟩ := blk1 w (rC zB zB (.slice none 0 0)) 31
  rw [show w.alloc (.cells #[.int .i64 0, .int .i64 0, .int .i64 0, .int .i64 0, .int .i64 0, .int .i64 0, .slice none 0 0] 31) = A from hAe]
  clear hAe
  go_wp2_with (refine st_rg rfl rfl (p1 := zB) (a1 := zB) hB rfl rfl ?_; intro W5 hB5 C5)
  exact bodyPost_ret (results_c2 rfl _ _ _ 31 _ (0, 0) _ (.bool false) rfl rfl hB5 Try.underlying31 rfl (info_rg zB zB _)) rfl ⟨rgi_zero _ _ _ _ (tkR_no HB.out) (by rw [HB.out]), ab_chg hw C5 (Nat.le_refl _)⟩
theorem at_getD {W : World} {g off : Nat} {l : List Int} (h : IRow W g off l) (i : Nat) (hi : i < l.length) : W.cell? ⟨g, off + i, none⟩ = some (.int .i64 (l.getD i 0)) := by
  refine h i _ ?_
  rw [List.getD_eq_getElem?_getD, List.getElem?_eq_getElem hi]
  rfl
set_option maxHeartbeats 4000000 in
set_option maxRecDepth 100000 in
theorem rtake9_long (v : Value) (l : List Int) (w : World) (hv : Is w v l) (h6 : 6 ≤ l.length) (hl : l.length ≤ 100000) :
    Calls Try.prog 26 #[v] w fun e w' => RgI w' (tkR l) (.bool (tkB l)) e ∧ Below w.heap.size w w' := by
  obtain ⟨q, c, e⟩ := hv.form
  subst e
  have hc := hv.len
  obtain ⟨n, hn⟩ : ∃ n, l.length = n := ⟨_, rfl⟩
  have HB : Hid (tkB l = gdR (tkO l)) := tkB_long h6
  obtain ⟨p0, k0⟩ : ∃ x, l.getD 0 0 = x := ⟨_, rfl⟩
  obtain ⟨p1, k1⟩ : ∃ x, l.getD 1 0 = x := ⟨_, rfl⟩
  obtain ⟨p2, k2⟩ : ∃ x, l.getD 2 0 = x := ⟨_, rfl⟩
  obtain ⟨p3, k3⟩ : ∃ x, l.getD 3 0 = x := ⟨_, rfl⟩
  obtain ⟨p4, k4⟩ : ∃ x, l.getD 4 0 = x := ⟨_, rfl⟩
  obtain ⟨p5, k5⟩ : ∃ x, l.getD 5 0 = x := ⟨_, rfl⟩
  have HO : Hid (tkO l = ⟨⟨p0, p1, p2⟩, ⟨p3, p4, p5⟩, l.drop 6⟩) := by show _ = _; unfold tkO; rw [k0, k1, k2, k3, k4, k5]
  have HG : Hid (gdN ⟨p0, p1, p2⟩ ⟨p3, p4, p5⟩ (n - 6) = gdR (tkO l)) := by show _ = _; rw [HO.out]; show _ = gdN _ _ (l.drop 6).length; rw [List.length_drop, hn]
  have HL6 : Hid ((l.drop 6).length = n - 6) := by show _ = _; rw [List.length_drop, hn]
  rw [hn] at hv h6 hc hl ⊢
  have h6' : ¬ (n : Int) < 6 := by omega
  have m0 : 0 < n := by omega
  have m1 : (1 : Int) < (n : Int) := by omega
  have m2 : (2 : Int) < (n : Int) := by omega
  have m3 : (3 : Int) < (n : Int) := by omega
  have m4 : (4 : Int) < (n : Int) := by omega
  have m5 : (5 : Int) < (n : Int) := by omega
  obtain ⟨gg, off, rfl, hgg, hrr⟩ := hv.at (by omega)
  obtain ⟨q6, e6⟩ := sliced_form (some ⟨gg, off, none⟩) 6 n c
  go_enter Try.func26, Try.ntmps26
  go_upto_region 1 with fail
  obtain ⟨V, hAe, hB, hw⟩ := blk1 w (rC zB zB (.slice none 0 0)) 31
  rw [show w.alloc (.cells #[.int .i64 0, .int .i64 0, .int .i64 0, .int .i64 0, .int .i64 0, .int .i64 0, .slice none 0 0] 31) = V from hAe]
  clear hAe
  have hvV := hv.keep hw
  have hgV : gg < V.heap.size := Nat.lt_of_lt_of_le hgg hw.size
  have d0 : V.cell? ⟨gg, off, none⟩ = some (.int .i64 p0) := by rw [← k0]; exact keep_cell hw (at_getD hrr 0 (by omega)) hgg
  have d1 : V.cell? ⟨gg, off + 1, none⟩ = some (.int .i64 p1) := by rw [← k1]; exact keep_cell hw (at_getD hrr 1 (by omega)) hgg
  have d2 : V.cell? ⟨gg, off + 2, none⟩ = some (.int .i64 p2) := by rw [← k2]; exact keep_cell hw (at_getD hrr 2 (by omega)) hgg
  have d3 : V.cell? ⟨gg, off + 3, none⟩ = some (.int .i64 p3) := by rw [← k3]; exact keep_cell hw (at_getD hrr 3 (by omega)) hgg
  have d4 : V.cell? ⟨gg, off + 4, none⟩ = some (.int .i64 p4) := by rw [← k4]; exact keep_cell hw (at_getD hrr 4 (by omega)) hgg
  have d5 : V.cell? ⟨gg, off + 5, none⟩ = some (.int .i64 p5) := by rw [← k5]; exact keep_cell hw (at_getD hrr 5 (by omega)) hgg
  clear k0 k1 k2 k3 k4 k5 hrr
  have i6 : Is V (.slice q6 (n - 6) (c - 6)) (l.drop 6) := by
    have := hvV.sub (i := 6) (j := n) (sc := c) (by omega) (by omega) (Nat.le_refl _) (by omega) e6.symm
    rwa [List.take_of_length_le (by rw [List.length_drop]; omega)] at this
  have hzV : w.heap.size < V.heap.size := hB.lt
  obtain ⟨m, hm⟩ : ∃ m, n - 6 = m := ⟨_, rfl⟩
  rw [hm] at HL6 i6 HG e6
  go_upto_region 3 with fail
  go_cut [4] from 9 to 33 (fun x wc => ∃ g q9 c9, x = .pointer (some ⟨g, 0, none⟩) ∧ V.heap.size ≤ g ∧ Blk wc g (rC ⟨p0, p1, p2⟩ ⟨p3, p4, p5⟩ (.slice q9 m c9)) 31 ∧ Io wc V.heap.size (.slice q9 m c9) (l.drop 6) ∧ Below V.heap.size V wc)
  case first =>
    refine wp_region_held_drew (S := fun w' => Below V.heap.size V w') (by kernel_rfl) (ab_drew (Below.refl _ _)) (fun hHeld => ?_)
    refine takeH (i := 0) (some 9) rfl rfl (by kernel_rfl) (by kernel_rfl) (by kernel_rfl) (fun _ _ _ h => h) (by rfl) (fun w hSw => by (try dsimp only at hSw); go_simp; try rfl) hHeld ?_
    go_frame
    refine takeH (i := 1) (some 10) rfl rfl (by kernel_rfl) (by kernel_rfl) (by kernel_rfl) (fun _ _ _ h => h) (by rfl) (fun w hSw => by (try dsimp only at hSw); go_simp; try rfl) hHeld ?_
    go_frame
    refine takeH (i := 2) (some 11) rfl rfl (by kernel_rfl) (by kernel_rfl) (by kernel_rfl) (fun _ _ _ h => h) (by rfl) (fun w hSw => by (try dsimp only at hSw); have yy := keep_cell hSw d0 hgV; go_simp; try rfl) hHeld ?_
    go_frame
    refine takeH (i := 3) (some 12) rfl rfl (by kernel_rfl) (by kernel_rfl) (by kernel_rfl) (fun _ _ _ h => h) (by rfl) (fun w hSw => by (try dsimp only at hSw); go_simp; try rfl) hHeld ?_
    go_frame
    refine takeH (i := 4) (some 13) rfl rfl (by kernel_rfl) (by kernel_rfl) (by kernel_rfl) (fun _ _ _ h => h) (by rfl) (fun w hSw => by (try dsimp only at hSw); go_simp; try rfl) hHeld ?_
    go_frame
    refine takeH (i := 5) (some 14) rfl rfl (by kernel_rfl) (by kernel_rfl) (by kernel_rfl) (fun _ _ _ h => h) (by rfl) (fun w hSw => by (try dsimp only at hSw); have yy := keep_cell hSw d1 hgV; go_simp; try rfl) hHeld ?_
    go_frame
    refine takeH (i := 6) (some 15) rfl rfl (by kernel_rfl) (by kernel_rfl) (by kernel_rfl) (fun _ _ _ h => h) (by rfl) (fun w hSw => by (try dsimp only at hSw); go_simp; try rfl) hHeld ?_
    go_frame
    refine takeH (i := 7) (some 16) rfl rfl (by kernel_rfl) (by kernel_rfl) (by kernel_rfl) (fun _ _ _ h => h) (by rfl) (fun w hSw => by (try dsimp only at hSw); go_simp; try rfl) hHeld ?_
    go_frame
    refine takeH (i := 8) (some 17) rfl rfl (by kernel_rfl) (by kernel_rfl) (by kernel_rfl) (fun _ _ _ h => h) (by rfl) (fun w hSw => by (try dsimp only at hSw); have yy := keep_cell hSw d2 hgV; go_simp; try rfl) hHeld ?_
    go_frame
    refine takeH (i := 9) (some 18) rfl rfl (by kernel_rfl) (by kernel_rfl) (by kernel_rfl) (fun _ _ _ h => h) (by rfl) (fun w hSw => by (try dsimp only at hSw); go_simp; try rfl) hHeld ?_
    go_frame
    refine takeH (i := 10) (some 19) rfl rfl (by kernel_rfl) (by kernel_rfl) (by kernel_rfl) (fun _ _ _ h => h) (by rfl) (fun w hSw => by (try dsimp only at hSw); go_simp; try rfl) hHeld ?_
    go_frame
    refine takeH (i := 11) (some 20) rfl rfl (by kernel_rfl) (by kernel_rfl) (by kernel_rfl) (fun _ _ _ h => h) (by rfl) (fun w hSw => by (try dsimp only at hSw); go_simp; try rfl) hHeld ?_
    go_frame
    refine takeH (i := 12) (some 21) rfl rfl (by kernel_rfl) (by kernel_rfl) (by kernel_rfl) (fun _ _ _ h => h) (by rfl) (fun w hSw => by (try dsimp only at hSw); have yy := keep_cell hSw d3 hgV; go_simp; try rfl) hHeld ?_
    go_frame
    refine takeH (i := 13) (some 22) rfl rfl (by kernel_rfl) (by kernel_rfl) (by kernel_rfl) (fun _ _ _ h => h) (by rfl) (fun w hSw => by (try dsimp only at hSw); go_simp; try rfl) hHeld ?_
    go_frame
    refine takeH (i := 14) (some 23) rfl rfl (by kernel_rfl) (by kernel_rfl) (by kernel_rfl) (fun _ _ _ h => h) (by rfl) (fun w hSw => by (try dsimp only at hSw); go_simp; try rfl) hHeld ?_
    go_frame
    refine takeH (i := 15) (some 24) rfl rfl (by kernel_rfl) (by kernel_rfl) (by kernel_rfl) (fun _ _ _ h => h) (by rfl) (fun w hSw => by (try dsimp only at hSw); have yy := keep_cell hSw d4 hgV; go_simp; try rfl) hHeld ?_
    go_frame
    refine takeH (i := 16) (some 25) rfl rfl (by kernel_rfl) (by kernel_rfl) (by kernel_rfl) (fun _ _ _ h => h) (by rfl) (fun w hSw => by (try dsimp only at hSw); go_simp; try rfl) hHeld ?_
    go_frame
    refine takeH (i := 17) (some 26) rfl rfl (by kernel_rfl) (by kernel_rfl) (by kernel_rfl) (fun _ _ _ h => h) (by rfl) (fun w hSw => by (try dsimp only at hSw); go_simp; try rfl) hHeld ?_
    go_frame
    refine takeH (i := 18) (some 27) rfl rfl (by kernel_rfl) (by kernel_rfl) (by kernel_rfl) (fun _ _ _ h => h) (by rfl) (fun w hSw => by (try dsimp only at hSw); have yy := keep_cell hSw d5 hgV; go_simp; try rfl) hHeld ?_
    go_frame
    refine takeH (i := 19) (some 28) rfl rfl (by kernel_rfl) (by kernel_rfl) (by kernel_rfl) (fun _ _ _ h => h) (by rfl) (fun w hSw => by (try dsimp only at hSw); go_simp; try rfl) hHeld ?_
    go_frame
    refine takeH (i := 21) (some 30) rfl rfl (by kernel_rfl) (by kernel_rfl) (by kernel_rfl) (fun _ _ _ h => h) (by rfl) (fun w hSw => by (try dsimp only at hSw); go_simp; try rfl) hHeld ?_
    go_frame
    refine takeH (i := 22) (some 31) rfl rfl (by kernel_rfl) (by kernel_rfl) (by kernel_rfl) (fun _ _ _ h => h) (by rfl) (fun w hSw => by (try dsimp only at hSw); exact (sli_l_run (i := 6) rfl rfl rfl rfl (by omega) (by omega)).trans (by rw [e6])) hHeld ?_
    go_frame
    refine wpAnyH_ready (rs := [20, 25]) (by kernel_rfl) (by simp) (AllReadyH.cons rfl (fun K hK => ?_) (AllReadyH.cons rfl (fun K hK => ?_) AllReadyH.nil))
    · rw [if_pos (by rfl)]
      refine bs_iW (some 29) rfl rfl [] (vs := #[]) (by simp) (isl0 _) rfl (by decide) fun X2 own2 bx2 => ?_
      have own2 := own_less own2 hHeld.size
      refine hK.out _ _ (ab_trans hHeld bx2) (fun hHeld => ?_)
      clear hK K
      go_frame
      refine wpAnyH_ready (rs := [23, 25]) (by kernel_rfl) (by simp) (AllReadyH.cons rfl (fun K hK => ?_) (AllReadyH.cons rfl (fun K hK => ?_) AllReadyH.nil))
      · rw [if_pos (by rfl)]
        refine appiW V (some 32) rfl rfl rfl own2 rfl (i6.keep hHeld) HL6.out (by have := HL6.out; omega) hHeld ?_
        intro v3 X3 own3 nn3 bx3 gr3
        have O3 : Io X3 V.heap.size v3 (l.drop 6) := io_of (by simpa using own3)
        obtain ⟨q9, c9, e9⟩ := O3.is.form
        rw [HL6.out] at e9
        subst e9
        refine hK.out _ _ bx3 (fun hHeld => ?_)
        clear hK K
        go_frame
        refine takeH (i := 24) (some 33) rfl rfl (by kernel_rfl) (by kernel_rfl) (by kernel_rfl) (fun _ _ _ h => h) (by rfl) (fun w hSw => by (try dsimp only at hSw); go_simp; try rfl) hHeld ?_
        go_frame
        refine wpAnyH_ready (rs := [25]) (by kernel_rfl) (by simp) (AllReadyH.cons rfl (fun K hK => ?_) AllReadyH.nil)
        rw [if_pos (by rfl)]
        refine alW (some 4) rfl rfl (rC zB zB (.slice none 0 0)) (zero_rg _) fun X8 hG bx8 => ?_
        have hge := hHeld.size
        refine hK.out _ _ (ab_trans hHeld bx8) (fun hHeld => ?_)
        clear hK K
        go_frame
        have O3 := O3.keep bx8
        refine wpAnyH_ready (rs := [26]) (by kernel_rfl) (by simp) (AllReadyH.cons rfl (fun K hK => ?_) AllReadyH.nil)
        rw [if_pos (by rfl)]
        refine stW none rfl rfl hG rfl rfl (info_rg ⟨p0, p1, p2⟩ ⟨p3, p4, p5⟩ (.slice q9 m c9)) rfl (rg_one ⟨p0, p1, p2⟩ ⟨p3, p4, p5⟩ _ _ _) fun X9 hG9 C9 => ?_
        have hb9 := hHeld.trans (C9.below hge)
        have O9 : Io X9 V.heap.size (.slice q9 m c9) (l.drop 6) := own_chgT O3 C9 (blk_own O3 hG (by decide))
        refine hK.out _ _ hb9 (fun hHeld => ?_)
        clear hK K
        refine wpAnyH_done (by kernel_rfl) ?_ _
        go_wp2_with fail
        go_meet
        case rel => exact ⟨_, _, _, rfl, hge, hG9, O9, hb9⟩
      · rw [if_pos (by rfl)]
        refine alW (some 4) rfl rfl (rC zB zB (.slice none 0 0)) (zero_rg _) fun X8 hG bx8 => ?_
        have hge := hHeld.size
        refine hK.out _ _ (ab_trans hHeld bx8) (fun hHeld => ?_)
        clear hK K
        go_frame
        refine wpAnyH_ready (rs := [23]) (by kernel_rfl) (by simp) (AllReadyH.cons rfl (fun K hK => ?_) AllReadyH.nil)
        rw [if_pos (by rfl)]
        have own2 := own_keep own2 bx8
        refine appiW V (some 32) rfl rfl rfl own2 rfl (i6.keep hHeld) HL6.out (by have := HL6.out; omega) hHeld ?_
        intro v3 X3 own3 nn3 bx3 gr3
        have O3 : Io X3 V.heap.size v3 (l.drop 6) := io_of (by simpa using own3)
        obtain ⟨q9, c9, e9⟩ := O3.is.form
        rw [HL6.out] at e9
        subst e9
        refine hK.out _ _ bx3 (fun hHeld => ?_)
        clear hK K
        go_frame
        have hG := blk_grownT hG gr3 (blk_own own2 hG (by decide))
        refine takeH (i := 24) (some 33) rfl rfl (by kernel_rfl) (by kernel_rfl) (by kernel_rfl) (fun _ _ _ h => h) (by rfl) (fun w hSw => by (try dsimp only at hSw); go_simp; try rfl) hHeld ?_
        go_frame
        refine wpAnyH_ready (rs := [26]) (by kernel_rfl) (by simp) (AllReadyH.cons rfl (fun K hK => ?_) AllReadyH.nil)
        rw [if_pos (by rfl)]
        refine stW none rfl rfl hG rfl rfl (info_rg ⟨p0, p1, p2⟩ ⟨p3, p4, p5⟩ (.slice q9 m c9)) rfl (rg_one ⟨p0, p1, p2⟩ ⟨p3, p4, p5⟩ _ _ _) fun X9 hG9 C9 => ?_
        have hb9 := hHeld.trans (C9.below hge)
        have O9 : Io X9 V.heap.size (.slice q9 m c9) (l.drop 6) := own_chgT O3 C9 (blk_own O3 hG (by decide))
        refine hK.out _ _ hb9 (fun hHeld => ?_)
        clear hK K
        refine wpAnyH_done (by kernel_rfl) ?_ _
        go_wp2_with fail
        go_meet
        case rel => exact ⟨_, _, _, rfl, hge, hG9, O9, hb9⟩
    · rw [if_pos (by rfl)]
      refine alW (some 4) rfl rfl (rC zB zB (.slice none 0 0)) (zero_rg _) fun X8 hG bx8 => ?_
      have hge := hHeld.size
      refine hK.out _ _ (ab_trans hHeld bx8) (fun hHeld => ?_)
      clear hK K
      go_frame
      refine wpAnyH_ready (rs := [20]) (by kernel_rfl) (by simp) (AllReadyH.cons rfl (fun K hK => ?_) AllReadyH.nil)
      rw [if_pos (by rfl)]
      refine bs_iW (some 29) rfl rfl [] (vs := #[]) (by simp) (isl0 _) rfl (by decide) fun X2 own2 bx2 => ?_
      have own2 := own_less own2 hHeld.size
      refine hK.out _ _ (ab_trans hHeld bx2) (fun hHeld => ?_)
      clear hK K
      go_frame
      have hG := hG.keep bx2
      refine wpAnyH_ready (rs := [23]) (by kernel_rfl) (by simp) (AllReadyH.cons rfl (fun K hK => ?_) AllReadyH.nil)
      rw [if_pos (by rfl)]
      refine appiW V (some 32) rfl rfl rfl own2 rfl (i6.keep hHeld) HL6.out (by have := HL6.out; omega) hHeld ?_
      intro v3 X3 own3 nn3 bx3 gr3
      have O3 : Io X3 V.heap.size v3 (l.drop 6) := io_of (by simpa using own3)
      obtain ⟨q9, c9, e9⟩ := O3.is.form
      rw [HL6.out] at e9
      subst e9
      refine hK.out _ _ bx3 (fun hHeld => ?_)
      clear hK K
      go_frame
      have hG := blk_grownT hG gr3 (blk_own own2 hG (by decide))
      refine takeH (i := 24) (some 33) rfl rfl (by kernel_rfl) (by kernel_rfl) (by kernel_rfl) (fun _ _ _ h => h) (by rfl) (fun w hSw => by (try dsimp only at hSw); go_simp; try rfl) hHeld ?_
      go_frame
      refine wpAnyH_ready (rs := [26]) (by kernel_rfl) (by simp) (AllReadyH.cons rfl (fun K hK => ?_) AllReadyH.nil)
      rw [if_pos (by rfl)]
      refine stW none rfl rfl hG rfl rfl (info_rg ⟨p0, p1, p2⟩ ⟨p3, p4, p5⟩ (.slice q9 m c9)) rfl (rg_one ⟨p0, p1, p2⟩ ⟨p3, p4, p5⟩ _ _ _) fun X9 hG9 C9 => ?_
      have hb9 := hHeld.trans (C9.below hge)
      have O9 : Io X9 V.heap.size (.slice q9 m c9) (l.drop 6) := own_chgT O3 C9 (blk_own O3 hG (by decide))
      refine hK.out _ _ hb9 (fun hHeld => ?_)
      clear hK K
      refine wpAnyH_done (by kernel_rfl) ?_ _
      go_wp2_with fail
      go_meet
      case rel => exact ⟨_, _, _, rfl, hge, hG9, O9, hb9⟩
  case rest =>
    obtain ⟨g, q9, c9, rfl, hge, hG, O9, bV⟩ := hcut
    have hB1 := hB.keep bV
    obtain ⟨c0, c1, c2, c3, c4, c5, c6⟩ := cells7 hG
    have hbv := Below.refl wc.heap.size wc
    clear hB
    go_wp2_with fail
    refine (rgood_any ⟨p0, p1, p2⟩ ⟨p3, p4, p5⟩ q9 m c9 _).mono ?_
    rintro e W1 ⟨rfl, b1⟩
    rw [HG.out]
    have hbv := ab_trans hbv b1
    have hB2 := hB1.keep hbv
    have hwv := ab_trans hw (ab_trans bV hbv)
    cases h1 : gdR (tkO l)
    · rw [h1] at HB
      clear hB1
      go_wp2_with (refine st_rg rfl rfl (p1 := zB) (a1 := zB) hB2 rfl rfl ?_; intro W5 hB5 C5)
      exact bodyPost_ret (results_c2 rfl _ _ _ 31 _ (0, 0) _ (.bool false) rfl rfl hB5 Try.underlying31 rfl (info_rg zB zB _)) rfl ⟨rgi_zero _ _ _ _ (tkR_no HB.out) (by rw [HB.out]), ab_chg hwv C5 (Nat.le_refl _)⟩
    · rw [h1] at HB
      have O1 := O9.keep hbv
      clear hB1
      go_wp2_with (refine st_rg rfl rfl (p1 := ⟨p0, p1, p2⟩) (a1 := ⟨p3, p4, p5⟩) hB2 rfl rfl ?_; intro W5 hB5 C5)
      have O5 : Io W5 V.heap.size (.slice q9 m c9) (l.drop 6) := io_chg O1 C5 hzV
      exact bodyPost_ret (results_c2 rfl _ _ _ 31 _ (0, 0) _ (.bool true) rfl rfl hB5 Try.underlying31 rfl (info_rg ⟨p0, p1, p2⟩ ⟨p3, p4, p5⟩ _)) rfl ⟨rgi_of _ _ _ ((tkR_ok HB.out).trans HO.out) (by rw [HB.out]) O5.is, ab_chg hwv C5 (Nat.le_refl _)⟩
theorem rtake9_any (v : Value) (l : List Int) (w : World) (hv : Is w v l) (hl : l.length ≤ 100000) :
    Calls Try.prog 26 #[v] w fun e w' => RgI w' (tkR l) (.bool (tkB l)) e ∧ Below w.heap.size w w' := by
  by_cases h : 6 ≤ l.length
  · exact rtake9_long v l w hv h hl
  · exact rtake9_short v l w hv h
end Go.Proofs.Ythpiajnnfchcjaa
