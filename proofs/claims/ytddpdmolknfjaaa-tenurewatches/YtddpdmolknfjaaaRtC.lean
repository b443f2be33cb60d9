/-
  The document's Want.
-/
import Derived.Test.YtddpdmolknfjaaaRtB
namespace Go.Proofs.Ytddpdmolknfjaaa
open Go.RowKit
set_option linter.unusedVariables false
set_option maxRecDepth 100000

/-- A change that lies in memory. -/
def CgJ (W : World) (k : Int) (o n : List Int) (e : Ending) : Prop := ∃ q1 c1 q2 c2, e = .returned (cgV k (.slice q1 o.length c1) (.slice q2 n.length c2)) ∧ Is W (.slice q1 o.length c1) o ∧ Is W (.slice q2 n.length c2) n
theorem cgj_read {W : World} {k : Int} {o n : List Int} (h : k = 1 ∧ o = [] ∧ n = []) : CgJ W k o n (.returned (cgV 1 (.slice none 0 0) (.slice none 0 0))) := by
  obtain ⟨rfl, rfl, rfl⟩ := h
  exact ⟨none, 0, none, 0, rfl, Is.nil _, Is.nil _⟩
theorem cgj_swap {W : World} {k : Int} {o n o' n' : List Int} {q1 q2 : Option Addr} {c1 c2 j : Nat} (h : k = 2 ∧ o = o' ∧ n = n') (hj : o'.length = j) (h1 : Is W (.slice q1 j c1) o') (h2 : Is W (.slice q2 n'.length c2) n') : CgJ W k o n (.returned (cgV 2 (.slice q1 j c1) (.slice q2 n'.length c2))) := by
  obtain ⟨rfl, rfl, rfl⟩ := h
  subst hj
  exact ⟨q1, c1, q2, c2, rfl, h1, h2⟩
set_option maxHeartbeats 8000000 in
theorem rtwant_any {G : Nat → Prop} (base d N : Nat) (S : Wt) (w : World) (hW : Rh G w base d N S) : Calls Try.prog 30 #[wptr d] w fun e w' => CgJ w' (wnK S) (wnO S) (wnN S) e ∧ Below w.heap.size w w' := by
  have hC := hW.cells
  obtain ⟨A, hAe, hB, hwA⟩ := blk1 w (cgC 0 (.slice none 0 0) (.slice none 0 0)) 51
  go_enter Try.func30, Try.ntmps30
  go_upto_region 1 with fail
  clear hAe
  obtain ⟨A2, hAe, hR0, hwA2⟩ := blk1 A (cgC 0 (.slice none 0 0) (.slice none 0 0)) 51
  go_upto_region 2 with (refine st_cg rfl rfl hR0 rfl rfl ?_; intro W1 hR1 C1)
  have b1 : Below A.heap.size A W1 := ab_chg hwA2 C1 (Nat.le_refl _)
  have hw1 := ab_trans hwA b1
  have hB1 := hB.keep b1
  have hlt : w.heap.size < A.heap.size := hB.lt
  clear hAe hR0 hwA2 C1 b1 hB hwA
  cases hs : S.sn
  · have HN : Hid (wnK S = 1 ∧ wnO S = [] ∧ wnN S = []) := wn_seen hs
    obtain ⟨-, q, c, hD⟩ := hW.unseen hs
    have y3 := hD W1 hw1
    clear hD hs
    go_upto_region 3 with fail
    clear y3
    go_wp2_with (first
      | (refine ld_blk rfl rfl hR1 rfl _ Try.underlying51 rfl (info_cg 1 _ _) ?_)
      | (refine st_cg rfl rfl hB1 rfl rfl ?_; intro W5 hB5 C5))
    exact bodyPost_ret (results_cell_row rfl _ _ _ 51 _ (0, 0) _ rfl hB5 Try.underlying51 rfl (info_cg _ _ _)) rfl ⟨cgj_read HN.out, ab_chg hw1 C5 (Nat.le_refl _)⟩
  · obtain ⟨g, m, cap, q, c, hn1, hcap, hmax, hg, hi, hD⟩ := hW.seen hs
    obtain ⟨y3, -⟩ := hD W1 hw1
    obtain ⟨m1, hm1⟩ : ∃ x, m + 1 = x := ⟨_, rfl⟩
    rw [hm1] at y3
    have n0 : ((m1 : Int) == 0) = false := by rw [beq_eq_false_iff_ne]; omega
    have HS : Hid (S.sn = true) := hs
    clear hD hs
    go_upto_region 4 with fail
    clear y3 n0 hm1 hn1 hcap hmax hg hi
    go_wp2_with fail
    refine (rlast_any base d N S _ (hW.keep hw1)).mono ?_
    rintro e W2 ⟨ql, cl, rfl, hIl, b2⟩
    have hw2 := ab_trans hw1 b2
    go_wp2_with fail
    refine (rtlease_any base d N S _ (hW.keep hw2)).mono ?_
    rintro e W3 ⟨rfl, b3⟩
    obtain ⟨x, hx⟩ : ∃ x, tkL S.vl = x := ⟨_, rfl⟩
    rw [hx]
    have HX : Hid (tkL S.vl = x) := hx
    clear hx
    obtain ⟨B, hBe, hL, hwL⟩ := blk1 W3 (leC zL) 29
    go_upto_region 6 with (refine st_le rfl rfl (k1 := x) hL rfl rfl ?_; intro W4 hL4 C4)
    have b4 : Below W3.heap.size W3 W4 := ab_chg hwL C4 (Nat.le_refl _)
    have b34 := ab_trans b3 b4
    have hw4 := ab_trans hw2 b34
    have b14 := ab_trans b2 b34
    have hI4 := hIl.keep b34
    have hB4 := hB1.keep b14
    have hR4 := hR1.keep b14
    have hg3 : w.heap.size < W3.heap.size := by have := hw2.size; have := b3.size; have := hB1.lt; have := b2.size; omega
    clear hBe hL hwL C4 b4 b34 b14 b3 b2 hIl hB1 hR1 hw1 hw2
    go_wp2_with fail
    refine (rtleads_any base d N S _ (hW.keep hw4)).mono ?_
    rintro e W5 ⟨rfl, b5⟩
    have hw5 := ab_trans hw4 b5
    have hI5 := hI4.keep b5
    have hB5 := hB4.keep b5
    have hR5 := hR4.keep b5
    have hL5 := hL4.keep b5
    clear hw4 hI4 hB4 hR4 hL4 b5
    obtain ⟨nv, hnv⟩ : ∃ n, S.vl.length = n := ⟨_, rfl⟩
    rw [hnv] at hI5 ⊢
    have z0 : W5.cell? ⟨W3.heap.size, 0, none⟩ = some (.int .i64 x.e) := hL5.at rfl
    have z1 : W5.cell? ⟨W3.heap.size, 1, none⟩ = some (.int .i64 x.h) := hL5.at rfl
    have z2 : W5.cell? ⟨W3.heap.size, 2, none⟩ = some (.int .i64 x.l) := hL5.at rfl
    have z3 : W5.cell? ⟨W3.heap.size, 3, none⟩ = some (.int .i64 x.b) := hL5.at rfl
    cases hd : ldB S
    rotate_left
    · have HN : Hid (wnK S = 2 ∧ wnO S = S.vl ∧ wnN S = [x.e, x.h, x.l, nx x.b]) := wn_own HS.out hd HX.out
      clear hd
      go_upto_region 8 with fail
      go_wp2_with (first
        | (refine bs_own rfl rfl [x.e, x.h, x.l, nx x.b] (by simp only [List.map_toArray, List.map_cons, List.map_nil]; rfl) (isl4 _ _ _ _ _) rfl (by decide) ?_; intro W6 hN6 b6 z6; clear z6; go_frame)
        | (have mk := b6; clear mk; refine st_cg rfl rfl (hB5.keep b6) rfl rfl ?_; intro W7 hB7 C7))
      have hI6 := hI5.keep b6
      have hB6 := hB5.keep b6
      have hP6 := io_of (l := [x.e, x.h, x.l, nx x.b]) hN6
      have hI7 : Io _ base (.slice ql nv cl) S.vl := own_chgT hI6 C7 (blk_own hI6 hB6 (by decide))
      have hP7 : Io _ W5.heap.size _ [x.e, x.h, x.l, nx x.b] := own_chgT hP6 C7 (blk_own hP6 hB6 (by decide))
      exact bodyPost_ret (results_cell_row rfl _ _ _ 51 _ (0, 0) _ rfl hB7 Try.underlying51 rfl (info_cg _ _ _)) rfl ⟨cgj_swap HN.out hnv hI7.is hP7.is, ab_chg (ab_trans hw5 b6) C7 (Nat.le_refl _)⟩
    · have HD : Hid (ldB S = false) := hd
      obtain ⟨-, -, y2, y4⟩ := hC W5 hw5
      clear hd
      cases hl : isL S.vl
      · have HN : Hid (wnK S = 2 ∧ wnO S = S.vl ∧ wnN S = [nx x.e, S.nd, S.lf, 0]) := wn_take HS.out HD.out (.inl hl) HX.out
        have hx0 : nx x.e = 1 := by rw [← HX.out, tk_no hl]; exact nx_0
        have HN : Hid (wnK S = 2 ∧ wnO S = S.vl ∧ wnN S = [1, S.nd, S.lf, 0]) := by have h9 := HN.out; rw [hx0] at h9; exact h9
        clear hx0
        go_upto_region 9 with fail
        go_quiet (fail)
        go_upto_region 14 with fail
        generalize hg6 : W5.drewN _ = W6
        have b6 : Below W5.heap.size W5 W6 := hg6 ▸ ab_drewN (Below.refl _ _) _
        have hw6 := ab_trans hw5 b6
        have hI6 := hI5.keep b6
        have hB6 := hB5.keep b6
        clear hg6 b6 hB5 hR5 hL5 y2 y4 z0 z1 z2 z3 hw5 hI5
        refine wp_region_held_drew (S := fun w' => Below w.heap.size w w') (by kernel_rfl) (ab_drew hw6) (fun hHeld => ?_)
        refine takeH (i := 0) (some 60) rfl rfl (by kernel_rfl) (by kernel_rfl) (by kernel_rfl) (fun _ _ _ h => h) (by rfl) (fun w hSw => by (try dsimp only at hSw); go_simp; try rfl) hHeld ?_
        go_frame
        refine takeH (i := 1) (some 61) rfl rfl (by kernel_rfl) (by kernel_rfl) (by kernel_rfl) (fun _ _ _ h => h) (by rfl) (fun w hSw => by (try dsimp only at hSw); go_simp; try rfl) hHeld ?_
        go_frame
        refine takeH (i := 2) (some 62) rfl rfl (by kernel_rfl) (by kernel_rfl) (by kernel_rfl) (fun _ _ _ h => h) (by rfl) (fun w hSw => by (try dsimp only at hSw); go_simp; try rfl) hHeld ?_
        go_frame
        refine takeH (i := 3) (some 63) rfl rfl (by kernel_rfl) (by kernel_rfl) (by kernel_rfl) (fun _ _ _ h => h) (by rfl) (fun w hSw => by (try dsimp only at hSw); go_simp; try rfl) hHeld ?_
        go_frame
        refine takeH (i := 4) (some 64) rfl rfl (by kernel_rfl) (by kernel_rfl) (by kernel_rfl) (fun _ _ _ h => h) (by rfl) (fun w hSw => by (try dsimp only at hSw); go_simp; try rfl) hHeld ?_
        go_frame
        refine takeH (i := 5) (some 65) rfl rfl (by kernel_rfl) (by kernel_rfl) (by kernel_rfl) (fun _ _ _ h => h) (by rfl) (fun w hSw => by (try dsimp only at hSw); obtain ⟨hh, -, -, -⟩ := hC _ hSw; go_simp; try rfl) hHeld ?_
        go_frame
        refine takeH (i := 6) (some 66) rfl rfl (by kernel_rfl) (by kernel_rfl) (by kernel_rfl) (fun _ _ _ h => h) (by rfl) (fun w hSw => by (try dsimp only at hSw); go_simp; try rfl) hHeld ?_
        go_frame
        refine takeH (i := 7) (some 67) rfl rfl (by kernel_rfl) (by kernel_rfl) (by kernel_rfl) (fun _ _ _ h => h) (by rfl) (fun w hSw => by (try dsimp only at hSw); go_simp; try rfl) hHeld ?_
        go_frame
        refine takeH (i := 8) (some 68) rfl rfl (by kernel_rfl) (by kernel_rfl) (by kernel_rfl) (fun _ _ _ h => h) (by rfl) (fun w hSw => by (try dsimp only at hSw); go_simp; try rfl) hHeld ?_
        go_frame
        refine takeH (i := 9) (some 69) rfl rfl (by kernel_rfl) (by kernel_rfl) (by kernel_rfl) (fun _ _ _ h => h) (by rfl) (fun w hSw => by (try dsimp only at hSw); obtain ⟨-, hh, -, -⟩ := hC _ hSw; go_simp; try rfl) hHeld ?_
        go_frame
        refine wpAnyH_ready (rs := [10]) (by kernel_rfl) (by simp) (AllReadyH.cons rfl (fun K hK => ?_) AllReadyH.nil)
        rw [if_pos (by rfl)]
        refine bs_iW (some 70) rfl rfl [1, S.nd, S.lf, 0] (by simp only [List.map_toArray, List.map_cons, List.map_nil]; rfl) (isl4 _ _ _ _ _) rfl (by decide) ?_
        intro W7 hN7 b7
        have hw7 := ab_trans hHeld b7
        have hB7 := hB6.drew.keep b7
        have hI7 := (Io.keep hI6 (ab_drew (Below.refl _ _))).keep b7
        have hP7 := io_of (l := [1, S.nd, S.lf, 0]) hN7
        refine hK.out _ _ hw7 (fun hHeld => ?_)
        clear hK K
        refine takeH (i := 11) (some 71) rfl rfl (by kernel_rfl) (by kernel_rfl) (by kernel_rfl) (fun _ _ _ h => h) (by rfl) (fun w hSw => by (try dsimp only at hSw); go_simp; try rfl) hHeld ?_
        go_frame
        refine wpAnyH_ready (rs := [12]) (by kernel_rfl) (by simp) (AllReadyH.cons rfl (fun K hK => ?_) AllReadyH.nil)
        rw [if_pos (by rfl)]
        refine stW none rfl rfl hB7 rfl rfl (info_cg 2 (.slice ql nv cl) (.slice (some ⟨W6.drew.heap.size, 0, none⟩) 4 4)) rfl (cg_one _ _ _ _ _ _ _) fun W8 hB8 C8 => ?_
        have hw8 := ab_chg hw7 C8 (Nat.le_refl _)
        have hI8 : Io _ base (.slice ql nv cl) S.vl := own_chgT hI7 C8 (blk_own hI7 hB7 (by decide))
        have hP8 : Io _ W6.drew.heap.size _ [1, S.nd, S.lf, 0] := own_chgT hP7 C8 (blk_own hP7 hB7 (by decide))
        refine hK.out _ _ hw8 (fun hHeld => ?_)
        clear hK K
        refine wpAnyH_done (by kernel_rfl) ?_ _
        go_wp2_with fail
        exact bodyPost_ret (results_cell_row rfl _ _ _ 51 _ (0, 0) _ rfl hB8 Try.underlying51 rfl (info_cg _ _ _)) rfl ⟨cgj_swap HN.out hnv hI8.is hP8.is, hw8⟩
      · by_cases ha : S.ag < S.tk
        · have HN : Hid (wnK S = 1 ∧ wnO S = [] ∧ wnN S = []) := wn_wait HD.out hl ha
          go_upto_region 9 with fail
          go_quiet (fail)
          go_upto_region 10 with fail
          generalize hg6 : W5.drewN _ = W6
          have b6 : Below W5.heap.size W5 W6 := hg6 ▸ ab_drewN (Below.refl _ _) _
          clear y2 y4 z0 z1 z2 z3 hg6
          have hR6 := hR5.keep b6
          have hB6 := hB5.keep b6
          go_wp2_with (first
            | (refine ld_blk rfl rfl hR6 rfl _ Try.underlying51 rfl (info_cg 1 _ _) ?_)
            | (refine st_cg rfl rfl hB6 rfl rfl ?_; intro W7 hB7 C7))
          exact bodyPost_ret (results_cell_row rfl _ _ _ 51 _ (0, 0) _ rfl hB7 Try.underlying51 rfl (info_cg _ _ _)) rfl ⟨cgj_read HN.out, ab_chg (ab_trans hw5 b6) C7 (Nat.le_refl _)⟩
        · have HN : Hid (wnK S = 2 ∧ wnO S = S.vl ∧ wnN S = [nx x.e, S.nd, S.lf, 0]) := wn_take HS.out HD.out (.inr ha) HX.out
          have hab : decide (S.ag < S.tk) = false := decide_eq_false ha
          go_upto_region 9 with fail
          go_quiet (fail)
          clear hab ha
          go_upto_region 13 with fail
          generalize hg6 : W5.drewN _ = W6
          have z0 : W6.cell? ⟨W3.heap.size, 0, none⟩ = some (.int .i64 x.e) := by rw [← hg6]; exact z0
          go_upto_region 14 with fail
          rw [show wrap64 (x.e + 1) = nx x.e from rfl]
          have b6 : Below W5.heap.size W5 W6 := hg6 ▸ ab_drewN (Below.refl _ _) _
          have hw6 := ab_trans hw5 b6
          have hI6 := hI5.keep b6
          have hB6 := hB5.keep b6
          clear hg6 b6 hB5 hR5 hL5 y2 y4 z0 z1 z2 z3 hw5 hI5
          refine wp_region_held_drew (S := fun w' => Below w.heap.size w w') (by kernel_rfl) (ab_drew hw6) (fun hHeld => ?_)
          refine takeH (i := 0) (some 60) rfl rfl (by kernel_rfl) (by kernel_rfl) (by kernel_rfl) (fun _ _ _ h => h) (by rfl) (fun w hSw => by (try dsimp only at hSw); go_simp; try rfl) hHeld ?_
          go_frame
          refine takeH (i := 1) (some 61) rfl rfl (by kernel_rfl) (by kernel_rfl) (by kernel_rfl) (fun _ _ _ h => h) (by rfl) (fun w hSw => by (try dsimp only at hSw); go_simp; try rfl) hHeld ?_
          go_frame
          refine takeH (i := 2) (some 62) rfl rfl (by kernel_rfl) (by kernel_rfl) (by kernel_rfl) (fun _ _ _ h => h) (by rfl) (fun w hSw => by (try dsimp only at hSw); go_simp; try rfl) hHeld ?_
          go_frame
          refine takeH (i := 3) (some 63) rfl rfl (by kernel_rfl) (by kernel_rfl) (by kernel_rfl) (fun _ _ _ h => h) (by rfl) (fun w hSw => by (try dsimp only at hSw); go_simp; try rfl) hHeld ?_
          go_frame
          refine takeH (i := 4) (some 64) rfl rfl (by kernel_rfl) (by kernel_rfl) (by kernel_rfl) (fun _ _ _ h => h) (by rfl) (fun w hSw => by (try dsimp only at hSw); go_simp; try rfl) hHeld ?_
          go_frame
          refine takeH (i := 5) (some 65) rfl rfl (by kernel_rfl) (by kernel_rfl) (by kernel_rfl) (fun _ _ _ h => h) (by rfl) (fun w hSw => by (try dsimp only at hSw); obtain ⟨hh, -, -, -⟩ := hC _ hSw; go_simp; try rfl) hHeld ?_
          go_frame
          refine takeH (i := 6) (some 66) rfl rfl (by kernel_rfl) (by kernel_rfl) (by kernel_rfl) (fun _ _ _ h => h) (by rfl) (fun w hSw => by (try dsimp only at hSw); go_simp; try rfl) hHeld ?_
          go_frame
          refine takeH (i := 7) (some 67) rfl rfl (by kernel_rfl) (by kernel_rfl) (by kernel_rfl) (fun _ _ _ h => h) (by rfl) (fun w hSw => by (try dsimp only at hSw); go_simp; try rfl) hHeld ?_
          go_frame
          refine takeH (i := 8) (some 68) rfl rfl (by kernel_rfl) (by kernel_rfl) (by kernel_rfl) (fun _ _ _ h => h) (by rfl) (fun w hSw => by (try dsimp only at hSw); go_simp; try rfl) hHeld ?_
          go_frame
          refine takeH (i := 9) (some 69) rfl rfl (by kernel_rfl) (by kernel_rfl) (by kernel_rfl) (fun _ _ _ h => h) (by rfl) (fun w hSw => by (try dsimp only at hSw); obtain ⟨-, hh, -, -⟩ := hC _ hSw; go_simp; try rfl) hHeld ?_
          go_frame
          refine wpAnyH_ready (rs := [10]) (by kernel_rfl) (by simp) (AllReadyH.cons rfl (fun K hK => ?_) AllReadyH.nil)
          rw [if_pos (by rfl)]
          refine bs_iW (some 70) rfl rfl [nx x.e, S.nd, S.lf, 0] (by simp only [List.map_toArray, List.map_cons, List.map_nil]; rfl) (isl4 _ _ _ _ _) rfl (by decide) ?_
          intro W7 hN7 b7
          have hw7 := ab_trans hHeld b7
          have hB7 := hB6.drew.keep b7
          have hI7 := (Io.keep hI6 (ab_drew (Below.refl _ _))).keep b7
          have hP7 := io_of (l := [nx x.e, S.nd, S.lf, 0]) hN7
          refine hK.out _ _ hw7 (fun hHeld => ?_)
          clear hK K
          refine takeH (i := 11) (some 71) rfl rfl (by kernel_rfl) (by kernel_rfl) (by kernel_rfl) (fun _ _ _ h => h) (by rfl) (fun w hSw => by (try dsimp only at hSw); go_simp; try rfl) hHeld ?_
          go_frame
          refine wpAnyH_ready (rs := [12]) (by kernel_rfl) (by simp) (AllReadyH.cons rfl (fun K hK => ?_) AllReadyH.nil)
          rw [if_pos (by rfl)]
          refine stW none rfl rfl hB7 rfl rfl (info_cg 2 (.slice ql nv cl) (.slice (some ⟨W6.drew.heap.size, 0, none⟩) 4 4)) rfl (cg_one _ _ _ _ _ _ _) fun W8 hB8 C8 => ?_
          have hw8 := ab_chg hw7 C8 (Nat.le_refl _)
          have hI8 : Io _ base (.slice ql nv cl) S.vl := own_chgT hI7 C8 (blk_own hI7 hB7 (by decide))
          have hP8 : Io _ W6.drew.heap.size _ [nx x.e, S.nd, S.lf, 0] := own_chgT hP7 C8 (blk_own hP7 hB7 (by decide))
          refine hK.out _ _ hw8 (fun hHeld => ?_)
          clear hK K
          refine wpAnyH_done (by kernel_rfl) ?_ _
          go_wp2_with fail
          exact bodyPost_ret (results_cell_row rfl _ _ _ 51 _ (0, 0) _ rfl hB8 Try.underlying51 rfl (info_cg _ _ _)) rfl ⟨cgj_swap HN.out hnv hI8.is hP8.is, hw8⟩
end Go.Proofs.Ytddpdmolknfjaaa
