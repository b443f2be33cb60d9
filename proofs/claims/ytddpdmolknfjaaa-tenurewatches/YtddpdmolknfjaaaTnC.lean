/-
  Want.
-/
import Derived.Test.YtddpdmolknfjaaaTnB
namespace Go.Proofs.Ytddpdmolknfjaaa
open Go.RowKit
set_option linter.unusedVariables false
set_option maxRecDepth 100000

/-- A change of the call's own. -/
def CgO (W : World) (base : Nat) (k : Int) (o n : List Int) (e : Ending) : Prop := ∃ q1 c1 q2 c2, e = .returned (cgV k (.slice q1 o.length c1) (.slice q2 n.length c2)) ∧ Io W base (.slice q1 o.length c1) o ∧ Io W base (.slice q2 n.length c2) n
theorem wn_seen {S : Wt} (h : S.sn = false) : wnK S = 1 ∧ wnO S = [] ∧ wnN S = [] := by
  have h0 : wnW S = 0 := by unfold wnW; rw [h]; rfl
  unfold wnK wnO wnN
  rw [h0]
  exact ⟨rfl, rfl, rfl⟩
theorem wn_wait {S : Wt} (h1 : ldB S = false) (h2 : isL S.vl = true) (h3 : S.ag < S.tk) : wnK S = 1 ∧ wnO S = [] ∧ wnN S = [] := by
  have h0 : wnW S = 0 := by unfold wnW; rw [h1, h2, decide_eq_true h3]; cases S.sn <;> rfl
  unfold wnK wnO wnN
  rw [h0]
  exact ⟨rfl, rfl, rfl⟩
theorem wn_own {S : Wt} {x : Le} (h : S.sn = true) (h1 : ldB S = true) (hx : tkL S.vl = x) : wnK S = 2 ∧ wnO S = S.vl ∧ wnN S = [x.e, x.h, x.l, nx x.b] := by
  have h0 : wnW S = 1 := by unfold wnW; rw [h, h1]; rfl
  unfold wnK wnO wnN
  rw [h0, hx]
  exact ⟨rfl, rfl, rfl⟩
theorem wn_take {S : Wt} {x : Le} (h : S.sn = true) (h1 : ldB S = false) (h2 : isL S.vl = false ∨ ¬ S.ag < S.tk) (hx : tkL S.vl = x) : wnK S = 2 ∧ wnO S = S.vl ∧ wnN S = [nx x.e, S.nd, S.lf, 0] := by
  have h3 : (isL S.vl && decide (S.ag < S.tk)) = false := by
    rcases h2 with h2 | h2
    · rw [h2]; rfl
    · rw [decide_eq_false h2, Bool.and_false]
  have h0 : wnW S = 2 := by unfold wnW; rw [h, h1, h3]; rfl
  unfold wnK wnO wnN
  rw [h0, hx]
  exact ⟨rfl, rfl, rfl⟩
theorem cgo_read {W : World} {base : Nat} {k : Int} {o n : List Int} (h : k = 1 ∧ o = [] ∧ n = []) : CgO W base k o n (.returned (cgV 1 (.slice none 0 0) (.slice none 0 0))) := by
  obtain ⟨rfl, rfl, rfl⟩ := h
  exact ⟨none, 0, none, 0, rfl, gio_nil _ _, gio_nil _ _⟩
theorem cgo_swap {W : World} {base : Nat} {k : Int} {o n o' n' : List Int} {q1 q2 : Option Addr} {c1 c2 j : Nat} (h : k = 2 ∧ o = o' ∧ n = n') (hj : o'.length = j) (h1 : Io W base (.slice q1 j c1) o') (h2 : Io W base (.slice q2 n'.length c2) n') : CgO W base k o n (.returned (cgV 2 (.slice q1 j c1) (.slice q2 n'.length c2))) := by
  obtain ⟨rfl, rfl, rfl⟩ := h
  subst hj
  exact ⟨q1, c1, q2, c2, rfl, h1, h2⟩
set_option maxHeartbeats 8000000 in
theorem twant_any (base b : Nat) (S : Wt) (w : World) (hW : Wh w base b S) : Calls Try.prog 19 #[wptr b] w fun e w' => CgO w' w.heap.size (wnK S) (wnO S) (wnN S) e ∧ Below w.heap.size w w' := by
  obtain ⟨q, c, hI, hC⟩ := hW.cells
  have hlen := hW.len
  obtain ⟨n, hn⟩ : ∃ n, S.vl.length = n := ⟨_, rfl⟩
  rw [hn] at hI hC hlen
  obtain ⟨A, hAe, hB, hw⟩ := blk1 w (cgC 0 (.slice none 0 0) (.slice none 0 0)) 51
  go_enter Try.func19, Try.ntmps19
  go_upto_region 1 with fail
  clear hAe
  cases hs : S.sn
  · have HN : Hid (wnK S = 1 ∧ wnO S = [] ∧ wnN S = []) := wn_seen hs
    obtain ⟨-, -, -, y3, -, -⟩ := hC A hw
    rw [hs] at y3
    go_upto_region 2 with fail
    clear y3 hC hs
    go_wp2_with fail
    refine (gread_any _).mono ?_
    rintro e W1 ⟨rfl, b1⟩
    go_wp2_with (refine st_cg rfl rfl (hB.keep b1) rfl rfl ?_; intro W5 hB5 C5)
    exact bodyPost_ret (results_cell_row rfl _ _ _ 51 _ (0, 0) _ rfl hB5 Try.underlying51 rfl (info_cg _ _ _)) rfl ⟨cgo_read HN.out, ab_chg (ab_trans hw b1) C5 (Nat.le_refl _)⟩
  · obtain ⟨-, -, -, y3, -, -⟩ := hC A hw
    rw [hs] at y3
    have HS : Hid (S.sn = true) := hs
    go_upto_region 3 with fail
    clear y3 hs
    go_wp2_with fail
    refine (tlease_any base b S _ (hW.keep hw)).mono ?_
    rintro e W1 ⟨rfl, b1⟩
    obtain ⟨B, hBe, hL, hwL⟩ := blk1 W1 (leC zL) 29
    obtain ⟨x, hx⟩ : ∃ x, tkL S.vl = x := ⟨_, rfl⟩
    rw [hx]
    have HX : Hid (tkL S.vl = x) := hx
    clear hx
    go_upto_region 4 with (refine st_le rfl rfl (k1 := x) hL rfl rfl ?_; intro W2 hL2 C2)
    have hb2 : Below A.heap.size A W2 := ab_chg (ab_trans b1 hwL) C2 b1.size
    have hw2 := ab_trans hw hb2
    have hB2 := hB.keep hb2
    have hg1 : w.heap.size < W1.heap.size := Nat.lt_of_lt_of_le hB.lt b1.size
    clear hBe hL hwL C2 hB b1
    go_wp2_with fail
    refine (tleads_any base b S _ (hW.keep hw2)).mono ?_
    rintro e W3 ⟨rfl, b3⟩
    have hw3 := ab_trans hw2 b3
    have hL3 := hL2.keep b3
    have hB3 := hB2.keep b3
    have hL1 := hL3.lt
    clear hb2 hw2 hL2 hB2 b3
    cases hd : ldB S
    · obtain ⟨-, -, y2, -, -, y5⟩ := hC W3 hw3
      have HD : Hid (ldB S = false) := hd
      clear hd
      cases hl : isL S.vl
      · have HN : Hid (wnK S = 2 ∧ wnO S = S.vl ∧ wnN S = [nx x.e, S.nd, S.lf, 0]) := wn_take HS.out HD.out (.inl hl) HX.out
        go_upto_region 8 with fail
        go_quiet (fail)
        go_upto_region 10 with fail
        generalize hg4 : W3.drewN _ = W4
        have b4 : Below W3.heap.size W3 W4 := hg4 ▸ ab_drewN (Below.refl _ _) _
        have hw4 := ab_trans hw3 b4
        have hL4 := hL3.keep b4
        have hB4 := hB3.keep b4
        clear hg4 b4 hL3 hB3 hL1 y2 y5 hw3
        refine wp_region_held_drew (S := fun w' => Below w.heap.size w w' ∧ Blk w' W1.heap.size (leC x) 29) (by kernel_rfl) ⟨ab_drew hw4, hL4.drew⟩ (fun hHeld => ?_)
        refine takeH (i := 0) (some 52) rfl rfl (by kernel_rfl) (by kernel_rfl) (by kernel_rfl) (fun _ _ _ h => h) (by rfl) (fun w hSw => by (try dsimp only at hSw); go_simp; try rfl) hHeld ?_
        go_frame
        refine takeH (i := 1) (some 53) rfl rfl (by kernel_rfl) (by kernel_rfl) (by kernel_rfl) (fun _ _ _ h => h) (by rfl) (fun w hSw => by (try dsimp only at hSw); go_simp; try rfl) hHeld ?_
        go_frame
        refine takeH (i := 2) (some 54) rfl rfl (by kernel_rfl) (by kernel_rfl) (by kernel_rfl) (fun _ _ _ h => h) (by rfl) (fun w hSw => by (try dsimp only at hSw); go_simp; try rfl) hHeld ?_
        go_frame
        refine takeH (i := 3) (some 55) rfl rfl (by kernel_rfl) (by kernel_rfl) (by kernel_rfl) (fun _ _ _ h => h) (by rfl) (fun w hSw => by (try dsimp only at hSw); obtain ⟨-, -, -, -, hh, -⟩ := hC _ hSw.1; go_simp; try rfl) hHeld ?_
        go_frame
        refine takeH (i := 4) (some 56) rfl rfl (by kernel_rfl) (by kernel_rfl) (by kernel_rfl) (fun _ _ _ h => h) (by rfl) (fun w hSw => by (try dsimp only at hSw); go_simp; try rfl) hHeld ?_
        go_frame
        refine takeH (i := 5) (some 57) rfl rfl (by kernel_rfl) (by kernel_rfl) (by kernel_rfl) (fun _ _ _ h => h) (by rfl) (fun w hSw => by (try dsimp only at hSw); have hh : w.cell? ⟨W1.heap.size, 0, none⟩ = some (.int .i64 x.e) := hSw.2.at rfl; go_simp; try rfl) hHeld ?_
        go_frame
        refine takeH (i := 6) (v := .int .i64 (nx x.e)) (some 58) rfl rfl (by kernel_rfl) (by kernel_rfl) (by kernel_rfl) (fun _ _ _ h => h) (by rfl) (fun w hSw => by (try dsimp only at hSw); simp [go_sem]; exact nx_wrap _) hHeld ?_
        go_frame
        refine takeH (i := 7) (some 59) rfl rfl (by kernel_rfl) (by kernel_rfl) (by kernel_rfl) (fun _ _ _ h => h) (by rfl) (fun w hSw => by (try dsimp only at hSw); go_simp; try rfl) hHeld ?_
        go_frame
        refine takeH (i := 8) (some 60) rfl rfl (by kernel_rfl) (by kernel_rfl) (by kernel_rfl) (fun _ _ _ h => h) (by rfl) (fun w hSw => by (try dsimp only at hSw); go_simp; try rfl) hHeld ?_
        go_frame
        refine takeH (i := 9) (some 61) rfl rfl (by kernel_rfl) (by kernel_rfl) (by kernel_rfl) (fun _ _ _ h => h) (by rfl) (fun w hSw => by (try dsimp only at hSw); go_simp; try rfl) hHeld ?_
        go_frame
        refine takeH (i := 10) (some 62) rfl rfl (by kernel_rfl) (by kernel_rfl) (by kernel_rfl) (fun _ _ _ h => h) (by rfl) (fun w hSw => by (try dsimp only at hSw); go_simp; try rfl) hHeld ?_
        go_frame
        refine takeH (i := 11) (some 63) rfl rfl (by kernel_rfl) (by kernel_rfl) (by kernel_rfl) (fun _ _ _ h => h) (by rfl) (fun w hSw => by (try dsimp only at hSw); obtain ⟨hh, -, -, -, -, -⟩ := hC _ hSw.1; go_simp; try rfl) hHeld ?_
        go_frame
        refine takeH (i := 12) (some 64) rfl rfl (by kernel_rfl) (by kernel_rfl) (by kernel_rfl) (fun _ _ _ h => h) (by rfl) (fun w hSw => by (try dsimp only at hSw); go_simp; try rfl) hHeld ?_
        go_frame
        refine takeH (i := 13) (some 65) rfl rfl (by kernel_rfl) (by kernel_rfl) (by kernel_rfl) (fun _ _ _ h => h) (by rfl) (fun w hSw => by (try dsimp only at hSw); go_simp; try rfl) hHeld ?_
        go_frame
        refine takeH (i := 14) (some 66) rfl rfl (by kernel_rfl) (by kernel_rfl) (by kernel_rfl) (fun _ _ _ h => h) (by rfl) (fun w hSw => by (try dsimp only at hSw); go_simp; try rfl) hHeld ?_
        go_frame
        refine takeH (i := 15) (some 67) rfl rfl (by kernel_rfl) (by kernel_rfl) (by kernel_rfl) (fun _ _ _ h => h) (by rfl) (fun w hSw => by (try dsimp only at hSw); go_simp; try rfl) hHeld ?_
        go_frame
        refine takeH (i := 16) (some 68) rfl rfl (by kernel_rfl) (by kernel_rfl) (by kernel_rfl) (fun _ _ _ h => h) (by rfl) (fun w hSw => by (try dsimp only at hSw); obtain ⟨-, hh, -, -, -, -⟩ := hC _ hSw.1; go_simp; try rfl) hHeld ?_
        go_frame
        refine takeH (i := 17) (some 69) rfl rfl (by kernel_rfl) (by kernel_rfl) (by kernel_rfl) (fun _ _ _ h => h) (by rfl) (fun w hSw => by (try dsimp only at hSw); go_simp; try rfl) hHeld ?_
        go_frame
        refine wpAnyH_ready (rs := [18]) (by kernel_rfl) (by simp) (AllReadyH.cons rfl (fun K hK => ?_) AllReadyH.nil)
        go_simp
        refine (tnums_any ⟨nx x.e, S.nd, S.lf, 0⟩ _).mono ?_
        rintro e V1 ⟨g1, rfl, hO1, b1⟩
        show K _ _
        have hBv := hB4.drew.keep b1
        refine hK.out _ _ ⟨ab_trans hHeld.1 b1, hHeld.2.keep b1⟩ (fun hHeld => ?_)
        clear hK K
        refine wpAnyH_ready (rs := [19]) (by kernel_rfl) (by simp) (AllReadyH.cons rfl (fun K hK => ?_) AllReadyH.nil)
        go_simp
        refine (gswap_any _ _ S.vl (numL ⟨nx x.e, S.nd, S.lf, 0⟩) _ (hI.keep hHeld.1) hO1.is (by omega) (Nat.le_of_lt (show 4 < 100000 by decide))).mono ?_
        rintro e V2 ⟨q1, c1, q2, c2, rfl, hP1, hP2, b2⟩
        show K _ _
        have hw5 := ab_trans hHeld.1 b2
        have hB5 := hBv.keep b2
        have hA5 : w.heap.size < V1.heap.size := hBv.lt
        refine hK.out _ _ ⟨hw5, hHeld.2.keep b2⟩ (fun hHeld => ?_)
        clear hK K
        refine wpAnyH_ready (rs := [20]) (by kernel_rfl) (by simp) (AllReadyH.cons rfl (fun K hK => ?_) AllReadyH.nil)
        rw [if_pos (by rfl)]
        refine stW none rfl rfl hB5 rfl rfl (info_cg 2 (.slice q1 S.vl.length c1) (.slice q2 4 c2)) rfl (cg_one _ _ _ _ _ _ _) fun W6 hB6 C6 => ?_
        have hw6 := ab_chg hw5 C6 (Nat.le_refl _)
        refine hK.out _ _ ⟨hw6, hHeld.2.chg C6 (by omega)⟩ (fun hHeld => ?_)
        clear hK K
        refine wpAnyH_done (by kernel_rfl) ?_ _
        go_wp2_with fail
        exact bodyPost_ret (results_cell_row rfl _ _ _ 51 _ (0, 0) _ rfl hB6 Try.underlying51 rfl (info_cg _ _ _)) rfl ⟨cgo_swap HN.out rfl ((io_chg hP1 C6 hA5).less (Nat.le_of_lt hA5)) ((io_chg hP2 C6 hA5).less (Nat.le_of_lt hA5)), hw6⟩
      · by_cases ha : S.ag < S.tk
        · have HN : Hid (wnK S = 1 ∧ wnO S = [] ∧ wnN S = []) := wn_wait HD.out hl ha
          go_upto_region 8 with fail
          go_quiet (fail)
          go_upto_region 9 with fail
          generalize hg4 : W3.drewN _ = W4
          have b4 : Below W3.heap.size W3 W4 := hg4 ▸ ab_drewN (Below.refl _ _) _
          have hw4 := ab_trans hw3 b4
          have hL4 := hL3.keep b4
          have hB4 := hB3.keep b4
          clear hg4 b4 hL3 hB3 hL1 y2 y5 hw3
          go_wp2_with fail
          refine (gread_any _).mono ?_
          rintro e W5 ⟨rfl, b5⟩
          go_wp2_with (refine st_cg rfl rfl (hB4.keep b5) rfl rfl ?_; intro W6 hB6 C6)
          exact bodyPost_ret (results_cell_row rfl _ _ _ 51 _ (0, 0) _ rfl hB6 Try.underlying51 rfl (info_cg _ _ _)) rfl ⟨cgo_read HN.out, ab_chg (ab_trans hw4 b5) C6 (Nat.le_refl _)⟩
        · have HN : Hid (wnK S = 2 ∧ wnO S = S.vl ∧ wnN S = [nx x.e, S.nd, S.lf, 0]) := wn_take HS.out HD.out (.inr ha) HX.out
          have hab : decide (S.ag < S.tk) = false := decide_eq_false ha
          go_upto_region 8 with fail
          go_quiet (fail)
          go_upto_region 10 with fail
          generalize hg4 : W3.drewN _ = W4
          clear hab ha
          have b4 : Below W3.heap.size W3 W4 := hg4 ▸ ab_drewN (Below.refl _ _) _
          have hw4 := ab_trans hw3 b4
          have hL4 := hL3.keep b4
          have hB4 := hB3.keep b4
          clear hg4 b4 hL3 hB3 hL1 y2 y5 hw3
          refine wp_region_held_drew (S := fun w' => Below w.heap.size w w' ∧ Blk w' W1.heap.size (leC x) 29) (by kernel_rfl) ⟨ab_drew hw4, hL4.drew⟩ (fun hHeld => ?_)
          refine takeH (i := 0) (some 52) rfl rfl (by kernel_rfl) (by kernel_rfl) (by kernel_rfl) (fun _ _ _ h => h) (by rfl) (fun w hSw => by (try dsimp only at hSw); go_simp; try rfl) hHeld ?_
          go_frame
          refine takeH (i := 1) (some 53) rfl rfl (by kernel_rfl) (by kernel_rfl) (by kernel_rfl) (fun _ _ _ h => h) (by rfl) (fun w hSw => by (try dsimp only at hSw); go_simp; try rfl) hHeld ?_
          go_frame
          refine takeH (i := 2) (some 54) rfl rfl (by kernel_rfl) (by kernel_rfl) (by kernel_rfl) (fun _ _ _ h => h) (by rfl) (fun w hSw => by (try dsimp only at hSw); go_simp; try rfl) hHeld ?_
          go_frame
          refine takeH (i := 3) (some 55) rfl rfl (by kernel_rfl) (by kernel_rfl) (by kernel_rfl) (fun _ _ _ h => h) (by rfl) (fun w hSw => by (try dsimp only at hSw); obtain ⟨-, -, -, -, hh, -⟩ := hC _ hSw.1; go_simp; try rfl) hHeld ?_
          go_frame
          refine takeH (i := 4) (some 56) rfl rfl (by kernel_rfl) (by kernel_rfl) (by kernel_rfl) (fun _ _ _ h => h) (by rfl) (fun w hSw => by (try dsimp only at hSw); go_simp; try rfl) hHeld ?_
          go_frame
          refine takeH (i := 5) (some 57) rfl rfl (by kernel_rfl) (by kernel_rfl) (by kernel_rfl) (fun _ _ _ h => h) (by rfl) (fun w hSw => by (try dsimp only at hSw); have hh : w.cell? ⟨W1.heap.size, 0, none⟩ = some (.int .i64 x.e) := hSw.2.at rfl; go_simp; try rfl) hHeld ?_
          go_frame
          refine takeH (i := 6) (v := .int .i64 (nx x.e)) (some 58) rfl rfl (by kernel_rfl) (by kernel_rfl) (by kernel_rfl) (fun _ _ _ h => h) (by rfl) (fun w hSw => by (try dsimp only at hSw); simp [go_sem]; exact nx_wrap _) hHeld ?_
          go_frame
          refine takeH (i := 7) (some 59) rfl rfl (by kernel_rfl) (by kernel_rfl) (by kernel_rfl) (fun _ _ _ h => h) (by rfl) (fun w hSw => by (try dsimp only at hSw); go_simp; try rfl) hHeld ?_
          go_frame
          refine takeH (i := 8) (some 60) rfl rfl (by kernel_rfl) (by kernel_rfl) (by kernel_rfl) (fun _ _ _ h => h) (by rfl) (fun w hSw => by (try dsimp only at hSw); go_simp; try rfl) hHeld ?_
          go_frame
          refine takeH (i := 9) (some 61) rfl rfl (by kernel_rfl) (by kernel_rfl) (by kernel_rfl) (fun _ _ _ h => h) (by rfl) (fun w hSw => by (try dsimp only at hSw); go_simp; try rfl) hHeld ?_
          go_frame
          refine takeH (i := 10) (some 62) rfl rfl (by kernel_rfl) (by kernel_rfl) (by kernel_rfl) (fun _ _ _ h => h) (by rfl) (fun w hSw => by (try dsimp only at hSw); go_simp; try rfl) hHeld ?_
          go_frame
          refine takeH (i := 11) (some 63) rfl rfl (by kernel_rfl) (by kernel_rfl) (by kernel_rfl) (fun _ _ _ h => h) (by rfl) (fun w hSw => by (try dsimp only at hSw); obtain ⟨hh, -, -, -, -, -⟩ := hC _ hSw.1; go_simp; try rfl) hHeld ?_
          go_frame
          refine takeH (i := 12) (some 64) rfl rfl (by kernel_rfl) (by kernel_rfl) (by kernel_rfl) (fun _ _ _ h => h) (by rfl) (fun w hSw => by (try dsimp only at hSw); go_simp; try rfl) hHeld ?_
          go_frame
          refine takeH (i := 13) (some 65) rfl rfl (by kernel_rfl) (by kernel_rfl) (by kernel_rfl) (fun _ _ _ h => h) (by rfl) (fun w hSw => by (try dsimp only at hSw); go_simp; try rfl) hHeld ?_
          go_frame
          refine takeH (i := 14) (some 66) rfl rfl (by kernel_rfl) (by kernel_rfl) (by kernel_rfl) (fun _ _ _ h => h) (by rfl) (fun w hSw => by (try dsimp only at hSw); go_simp; try rfl) hHeld ?_
          go_frame
          refine takeH (i := 15) (some 67) rfl rfl (by kernel_rfl) (by kernel_rfl) (by kernel_rfl) (fun _ _ _ h => h) (by rfl) (fun w hSw => by (try dsimp only at hSw); go_simp; try rfl) hHeld ?_
          go_frame
          refine takeH (i := 16) (some 68) rfl rfl (by kernel_rfl) (by kernel_rfl) (by kernel_rfl) (fun _ _ _ h => h) (by rfl) (fun w hSw => by (try dsimp only at hSw); obtain ⟨-, hh, -, -, -, -⟩ := hC _ hSw.1; go_simp; try rfl) hHeld ?_
          go_frame
          refine takeH (i := 17) (some 69) rfl rfl (by kernel_rfl) (by kernel_rfl) (by kernel_rfl) (fun _ _ _ h => h) (by rfl) (fun w hSw => by (try dsimp only at hSw); go_simp; try rfl) hHeld ?_
          go_frame
          refine wpAnyH_ready (rs := [18]) (by kernel_rfl) (by simp) (AllReadyH.cons rfl (fun K hK => ?_) AllReadyH.nil)
          go_simp
          refine (tnums_any ⟨nx x.e, S.nd, S.lf, 0⟩ _).mono ?_
          rintro e V1 ⟨g1, rfl, hO1, b1⟩
          show K _ _
          have hBv := hB4.drew.keep b1
          refine hK.out _ _ ⟨ab_trans hHeld.1 b1, hHeld.2.keep b1⟩ (fun hHeld => ?_)
          clear hK K
          refine wpAnyH_ready (rs := [19]) (by kernel_rfl) (by simp) (AllReadyH.cons rfl (fun K hK => ?_) AllReadyH.nil)
          go_simp
          refine (gswap_any _ _ S.vl (numL ⟨nx x.e, S.nd, S.lf, 0⟩) _ (hI.keep hHeld.1) hO1.is (by omega) (Nat.le_of_lt (show 4 < 100000 by decide))).mono ?_
          rintro e V2 ⟨q1, c1, q2, c2, rfl, hP1, hP2, b2⟩
          show K _ _
          have hw5 := ab_trans hHeld.1 b2
          have hB5 := hBv.keep b2
          have hA5 : w.heap.size < V1.heap.size := hBv.lt
          refine hK.out _ _ ⟨hw5, hHeld.2.keep b2⟩ (fun hHeld => ?_)
          clear hK K
          refine wpAnyH_ready (rs := [20]) (by kernel_rfl) (by simp) (AllReadyH.cons rfl (fun K hK => ?_) AllReadyH.nil)
          rw [if_pos (by rfl)]
          refine stW none rfl rfl hB5 rfl rfl (info_cg 2 (.slice q1 S.vl.length c1) (.slice q2 4 c2)) rfl (cg_one _ _ _ _ _ _ _) fun W6 hB6 C6 => ?_
          have hw6 := ab_chg hw5 C6 (Nat.le_refl _)
          refine hK.out _ _ ⟨hw6, hHeld.2.chg C6 (by omega)⟩ (fun hHeld => ?_)
          clear hK K
          refine wpAnyH_done (by kernel_rfl) ?_ _
          go_wp2_with fail
          exact bodyPost_ret (results_cell_row rfl _ _ _ 51 _ (0, 0) _ rfl hB6 Try.underlying51 rfl (info_cg _ _ _)) rfl ⟨cgo_swap HN.out rfl ((io_chg hP1 C6 hA5).less (Nat.le_of_lt hA5)) ((io_chg hP2 C6 hA5).less (Nat.le_of_lt hA5)), hw6⟩
    · have HN : Hid (wnK S = 2 ∧ wnO S = S.vl ∧ wnN S = [x.e, x.h, x.l, nx x.b]) := wn_own HS.out hd HX.out
      have z3 : W3.cell? ⟨W1.heap.size, 3, none⟩ = some (.int .i64 x.b) := hL3.at rfl
      have f3 := hL3.frozen 3
      clear hd
      go_upto_region 7 with fail
      have C4 := chg_set W3 W1.heap.size 3 (.int .i64 (nx x.b))
      have hL4 : Blk _ W1.heap.size (leC ⟨x.e, x.h, x.l, nx x.b⟩) 29 := hL3.set 3 (.int .i64 (nx x.b))
      rw [show wrap64 (x.b + 1) = nx x.b from rfl]
      generalize W3.setCell ⟨W1.heap.size, 3, none⟩ (.int .i64 (nx x.b)) = W4 at C4 hL4 ⊢
      have hw4 := ab_chg hw3 C4 (Nat.le_of_lt hg1)
      have hB4 := hB3.chg C4 (by omega)
      clear z3 f3 hL3 hB3 C4 hL1
      refine wp_region_held_drew (S := fun w' => Below w.heap.size w w' ∧ Blk w' W1.heap.size (leC ⟨x.e, x.h, x.l, nx x.b⟩) 29) (by kernel_rfl) ⟨ab_drew hw4, hL4.drew⟩ (fun hHeld => ?_)
      refine takeH (i := 0) (some 32) rfl rfl (by kernel_rfl) (by kernel_rfl) (by kernel_rfl) (fun _ _ _ h => h) (by rfl) (fun w hSw => by (try dsimp only at hSw); go_simp; try rfl) hHeld ?_
      go_frame
      refine takeH (i := 1) (some 33) rfl rfl (by kernel_rfl) (by kernel_rfl) (by kernel_rfl) (fun _ _ _ h => h) (by rfl) (fun w hSw => by (try dsimp only at hSw); go_simp; try rfl) hHeld ?_
      go_frame
      refine takeH (i := 2) (some 34) rfl rfl (by kernel_rfl) (by kernel_rfl) (by kernel_rfl) (fun _ _ _ h => h) (by rfl) (fun w hSw => by (try dsimp only at hSw); go_simp; try rfl) hHeld ?_
      go_frame
      refine takeH (i := 3) (some 35) rfl rfl (by kernel_rfl) (by kernel_rfl) (by kernel_rfl) (fun _ _ _ h => h) (by rfl) (fun w hSw => by (try dsimp only at hSw); obtain ⟨-, -, -, -, hh, -⟩ := hC _ hSw.1; go_simp; try rfl) hHeld ?_
      go_frame
      refine takeH (i := 4) (some 36) rfl rfl (by kernel_rfl) (by kernel_rfl) (by kernel_rfl) (fun _ _ _ h => h) (by rfl) (fun w hSw => by (try dsimp only at hSw); have h0 := hSw.2.at (i := 0) rfl; have h1 := hSw.2.at (i := 1) rfl; have h2 := hSw.2.at (i := 2) rfl; have h3 := hSw.2.at (i := 3) rfl; go_simp; try rfl) hHeld ?_
      go_frame
      refine wpAnyH_ready (rs := [5]) (by kernel_rfl) (by simp) (AllReadyH.cons rfl (fun K hK => ?_) AllReadyH.nil)
      go_simp
      refine (tnums_any ⟨x.e, x.h, x.l, nx x.b⟩ _).mono ?_
      rintro e V1 ⟨g1, rfl, hO1, b1⟩
      show K _ _
      have hBv := hB4.drew.keep b1
      refine hK.out _ _ ⟨ab_trans hHeld.1 b1, hHeld.2.keep b1⟩ (fun hHeld => ?_)
      clear hK K
      refine wpAnyH_ready (rs := [6]) (by kernel_rfl) (by simp) (AllReadyH.cons rfl (fun K hK => ?_) AllReadyH.nil)
      go_simp
      refine (gswap_any _ _ S.vl (numL ⟨x.e, x.h, x.l, nx x.b⟩) _ (hI.keep hHeld.1) hO1.is (by omega) (Nat.le_of_lt (show 4 < 100000 by decide))).mono ?_
      rintro e V2 ⟨q1, c1, q2, c2, rfl, hP1, hP2, b2⟩
      show K _ _
      have hw5 := ab_trans hHeld.1 b2
      have hB5 := hBv.keep b2
      have hA5 : w.heap.size < V1.heap.size := hBv.lt
      refine hK.out _ _ ⟨hw5, hHeld.2.keep b2⟩ (fun hHeld => ?_)
      clear hK K
      refine wpAnyH_ready (rs := [7]) (by kernel_rfl) (by simp) (AllReadyH.cons rfl (fun K hK => ?_) AllReadyH.nil)
      rw [if_pos (by rfl)]
      refine stW none rfl rfl hB5 rfl rfl (info_cg 2 (.slice q1 S.vl.length c1) (.slice q2 4 c2)) rfl (cg_one _ _ _ _ _ _ _) fun W6 hB6 C6 => ?_
      have hw6 := ab_chg hw5 C6 (Nat.le_refl _)
      refine hK.out _ _ ⟨hw6, hHeld.2.chg C6 (by omega)⟩ (fun hHeld => ?_)
      clear hK K
      refine wpAnyH_done (by kernel_rfl) ?_ _
      go_wp2_with fail
      exact bodyPost_ret (results_cell_row rfl _ _ _ 51 _ (0, 0) _ rfl hB6 Try.underlying51 rfl (info_cg _ _ _)) rfl ⟨cgo_swap HN.out rfl ((io_chg hP1 C6 hA5).less (Nat.le_of_lt hA5)) ((io_chg hP2 C6 hA5).less (Nat.le_of_lt hA5)), hw6⟩
end Go.Proofs.Ytddpdmolknfjaaa
