/-
  Which plans are good, and how many lanes and nodes they have: estuarylaw19.PlanChecks returns true for every input; no condition.
-/
import Derived.Test.YtnooedipanhkjaaPnH
import Derived.Test.YtnooedipanhkjaaFrL
import Derived.Test.YtnooedipanhkjaaMixed
import Derived.ProofKit
import Derived.OpenShut
import Derived.ChangeOld
import Derived.Below
namespace Go.Proofs.Ytnooedipanhkjaa.planChecks
open Go.ChangeShapes Go.WideShapes Go.ChangeAt Go.RowKit Go.Joins
set_option linter.unusedVariables false
set_option maxRecDepth 100000

set_option maxHeartbeats 8000000 in
theorem checks_any (p : Pn) (W : World) (hv : Is W p.v p.l) :
    Calls Try.prog 3 #[pnV p] W fun e w' => e = .returned (.bool true) ∧ Below W.heap.size W w' := by
  have HC := fun (V : World) (hV : Below W.heap.size W V) => pcheck_any p V (hv.keep hV)
  have HGd := fun (V : World) (hV : Below W.heap.size W V) => rgood19_any p V (hv.keep hV)
  have HLn := fun (V : World) (hV : Below W.heap.size W V) => planes_any p V (hv.keep hV)
  have HNo := fun (V : World) (hV : Below W.heap.size W V) => pnodes_any p V (hv.keep hV)
  have HRo := fun (V : World) (hV : Below W.heap.size W V) => rroles_any p V (hv.keep hV)
  have hsum := ro_sum p
  have hrlen := ro_len p
  obtain ⟨q, cap, ev⟩ := hv.form
  have hg3 : gdP p = true → p.l.length ≤ 3 := fun h => by have := (gd_bd h).2.2.1; omega
  have HLs : Hid (gdP p = true → wrap64 ((p.l.length : Int) * p.sh) = lnP p) := fun h => by rw [(ln_small h).1]; unfold lnP; rw [if_pos h]
  have HLz : Hid (gdP p = false → lnP p = 0) := fun h => by unfold lnP; rw [h]; rfl
  generalize roL p = RO at *
  generalize pnS p + pnT p + pnK p + pnI p = NN at *
  generalize lnP p = LN at *
  obtain ⟨A, hAe, hX, hw⟩ := blk1 W (pnC p) 24
  obtain ⟨n, hn⟩ : ∃ n, p.l.length = n := ⟨_, rfl⟩
  go_enter Try.func3, Try.ntmps3
  go_upto_region 1 with fail
  clear hAe
  go_upto_region 3 with (go_at_call 8; refine (alive19_any _).mono ?_; rintro e W1 ⟨rfl, b1⟩)
  have hX1 := hX.keep b1
  have hw1 := ab_trans hw b1
  have x2 : W1.cell? ⟨W.heap.size, 2, none⟩ = some p.v := hX1.at rfl
  have x3 : W1.cell? ⟨W.heap.size, 3, none⟩ = some (.int .i64 p.sh) := hX1.at rfl
  rw [ev, hn] at x2
  rw [hn] at hg3 HLs
  clear hX hw b1
  by_cases c : (1000 : Int) < (n : Int)
  · have hgn : gdP p = false := by
      cases hg : gdP p
      · rfl
      · have := hg3 hg; omega
    simp only [hgn, Bool.false_eq_true, if_false] at HC
    clear HGd HLn HNo HRo
    have E14 := eq19_both
    go_wp2_with (first
      | (refine lw_pn (p := p) rfl rfl rfl hX1 ?_)
      | (go_at_call 9; refine (HC _ hw1).mono ?_; rintro e W2 ⟨rfl, b2⟩))
    go_ret
    exact ⟨rfl, ab_trans hw1 b2⟩
  have hn1000 : n ≤ 1000 := by omega
  have HVs : Hid (∀ V, Below W.heap.size W V → Is V (.slice q n cap) p.l) := fun V hV => by have := hv.keep hV; rw [ev, hn] at this; exact this
  have HVn : Hid (p.l.length = n) := hn
  clear ev hn
  go_upto_region 6 with (first
    | (refine bs_own rfl rfl [] (vs := #[]) (by simp) (isl0 _) rfl (by decide) ?_; intro W2 own2 b2 z2; clear z2; have y2 := keep_cell b2 x2 hX1.lt; go_frame)
    | (have mk := b2; clear mk; refine app_iL W1 rfl rfl rfl own2 rfl (HVs.out _ (ab_trans hw1 b2)) HVn.out (by omega) b2 ?_; intro v3 W3 own3 nn3 b3 gr3; clear gr3; go_frame))
  have hres : Is W3 v3 p.l := by have := own_is own3; simpa using this
  have hX3 := hX1.keep b3
  have hw3 := ab_trans hw1 b3
  clear own2 own3 nn3 hw1 b2 x3 y2
  cases hg : gdP p
  · simp only [hg, Bool.false_eq_true, if_false] at HC HGd
    go_upto_region 7 with (first
      | (refine lw_pn (p := p) rfl rfl rfl hX3 ?_)
      | (go_at_call 9; refine (HC _ hw3).mono ?_; rintro e W4 ⟨rfl, b4⟩))
    have hX4 := hX3.keep b4
    have hw4 := ab_trans hw3 b4
    go_upto_region 9 with (first
      | (refine lw_pn (p := p) rfl rfl rfl hX4 ?_)
      | (go_at_call 10; refine (HGd _ hw4).mono ?_; rintro e W5 ⟨rfl, b5⟩))
    have hX5 := hX4.keep b5
    have hw5 := ab_trans hw4 b5
    have hres5 := hres.keep (ab_trans b4 b5)
    have x2 : W5.cell? ⟨W.heap.size, 2, none⟩ = some (.slice q n cap) := keep_cell (ab_trans b3 (ab_trans b4 b5)) x2 hX1.lt
    have x3 : W5.cell? ⟨W.heap.size, 3, none⟩ = some (.int .i64 p.sh) := hX5.at rfl
    clear hX3 hX4 hw3 hw4 b4 b5 hres HC HGd
    go_upto_region 11 with fail
    obtain rfl := HLz.out hg
    clear HLs HLz hg hg3 x3
    refine wp_region_held_drew (S := fun w' => Below W5.heap.size W5 w') (by kernel_rfl) (ab_drew (Below.refl _ _)) (fun hHeld => ?_)
    refine takeH (i := 0) (some 32) rfl rfl (by kernel_rfl) (by kernel_rfl) (by kernel_rfl) (fun _ _ _ h => h) (by rfl) (fun w hSw => by (try dsimp only at hSw); go_simp; try rfl) hHeld ?_
    go_frame
    refine takeH (i := 1) (some 33) rfl rfl (by kernel_rfl) (by kernel_rfl) (by kernel_rfl) (fun _ _ _ h => h) (by rfl) (fun w hSw => by (try dsimp only at hSw); go_simp; try rfl) hHeld ?_
    go_frame
    refine takeH (i := 2) (some 34) rfl rfl (by kernel_rfl) (by kernel_rfl) (by kernel_rfl) (fun _ _ _ h => h) (by rfl) (fun w hSw => by (try dsimp only at hSw); go_simp; try rfl) hHeld ?_
    go_frame
    refine takeH (i := 3) (some 35) rfl rfl (by kernel_rfl) (by kernel_rfl) (by kernel_rfl) (fun _ _ _ h => h) (by rfl) (fun w hSw => by (try dsimp only at hSw); go_simp; try rfl) hHeld ?_
    go_frame
    refine takeH (i := 4) (some 36) rfl rfl (by kernel_rfl) (by kernel_rfl) (by kernel_rfl) (fun _ _ _ h => h) (by rfl) (fun w hSw => by (try dsimp only at hSw); go_simp; try rfl) hHeld ?_
    go_frame
    refine takeH (i := 5) (some 37) rfl rfl (by kernel_rfl) (by kernel_rfl) (by kernel_rfl) (fun _ _ _ h => h) (by rfl) (fun w hSw => by (try dsimp only at hSw); go_simp; try rfl) hHeld ?_
    go_frame
    refine takeH (i := 6) (some 38) rfl rfl (by kernel_rfl) (by kernel_rfl) (by kernel_rfl) (fun _ _ _ h => h) (by rfl) (fun w hSw => by (try dsimp only at hSw); go_simp; try rfl) hHeld ?_
    go_frame
    refine takeH (i := 7) (some 39) rfl rfl (by kernel_rfl) (by kernel_rfl) (by kernel_rfl) (fun _ _ _ h => h) (by rfl) (fun w hSw => by (try dsimp only at hSw); go_simp; try rfl) hHeld ?_
    go_frame
    refine takeH (i := 8) (some 40) rfl rfl (by kernel_rfl) (by kernel_rfl) (by kernel_rfl) (fun _ _ _ h => h) (by rfl) (fun w hSw => by (try dsimp only at hSw); go_simp; try rfl) hHeld ?_
    go_frame
    refine takeH (i := 9) (some 41) rfl rfl (by kernel_rfl) (by kernel_rfl) (by kernel_rfl) (fun _ _ _ h => h) (by rfl) (fun w hSw => by (try dsimp only at hSw); go_simp; try rfl) hHeld ?_
    go_frame
    refine takeH (i := 10) (some 42) rfl rfl (by kernel_rfl) (by kernel_rfl) (by kernel_rfl) (fun _ _ _ h => h) (by rfl) (fun w hSw => by (try dsimp only at hSw); go_simp; try rfl) hHeld ?_
    go_frame
    refine takeH (i := 11) (some 43) rfl rfl (by kernel_rfl) (by kernel_rfl) (by kernel_rfl) (fun _ _ _ h => h) (by rfl) (fun w hSw => by (try dsimp only at hSw); go_simp; try rfl) hHeld ?_
    go_frame
    refine takeH (i := 12) (some 44) rfl rfl (by kernel_rfl) (by kernel_rfl) (by kernel_rfl) (fun _ _ _ h => h) (by rfl) (fun w hSw => by (try dsimp only at hSw); go_simp; try rfl) hHeld ?_
    go_frame
    refine takeH (i := 13) (some 45) rfl rfl (by kernel_rfl) (by kernel_rfl) (by kernel_rfl) (fun _ _ _ h => h) (by rfl) (fun w hSw => by (try dsimp only at hSw); exact ld_pnr rfl rfl (hX5.keep hSw)) hHeld ?_
    go_frame
    refine takeH (i := 15) (some 47) rfl rfl (by kernel_rfl) (by kernel_rfl) (by kernel_rfl) (fun _ _ _ h => h) (by rfl) (fun w hSw => by (try dsimp only at hSw); go_simp; try rfl) hHeld ?_
    go_frame
    refine wpAnyH_ready (rs := [14]) (by kernel_rfl) (by simp) (AllReadyH.cons rfl (fun K hK => ?_) AllReadyH.nil)
    go_simp
    refine (HLn _ (ab_trans hw5 hHeld)).mono ?_
    rintro e V1 ⟨rfl, v1⟩
    show K _ _
    refine hK.out _ _ (ab_trans hHeld v1) (fun hHeld => ?_)
    clear hK K
    refine takeH (i := 16) (some 48) rfl rfl (by kernel_rfl) (by kernel_rfl) (by kernel_rfl) (fun _ _ _ h => h) (by rfl) (fun w hSw => by (try dsimp only at hSw); go_simp; try rfl) hHeld ?_
    go_frame
    refine takeH (i := 17) (some 49) rfl rfl (by kernel_rfl) (by kernel_rfl) (by kernel_rfl) (fun _ _ _ h => h) (by rfl) (fun w hSw => by (try dsimp only at hSw); go_simp; try rfl) hHeld ?_
    go_frame
    refine takeH (i := 18) (some 50) rfl rfl (by kernel_rfl) (by kernel_rfl) (by kernel_rfl) (fun _ _ _ h => h) (by rfl) (fun w hSw => by (try dsimp only at hSw); go_simp; try rfl) hHeld ?_
    go_frame
    refine takeH (i := 19) (some 51) rfl rfl (by kernel_rfl) (by kernel_rfl) (by kernel_rfl) (fun _ _ _ h => h) (by rfl) (fun w hSw => by (try dsimp only at hSw); exact ld_pnr rfl rfl (hX5.keep hSw)) hHeld ?_
    go_frame
    refine takeH (i := 21) (some 53) rfl rfl (by kernel_rfl) (by kernel_rfl) (by kernel_rfl) (fun _ _ _ h => h) (by rfl) (fun w hSw => by (try dsimp only at hSw); exact ld_pnr rfl rfl (hX5.keep hSw)) hHeld ?_
    go_frame
    refine wpAnyH_ready (rs := [20]) (by kernel_rfl) (by simp) (AllReadyH.cons rfl (fun K hK => ?_) AllReadyH.nil)
    go_simp
    refine (HNo _ (ab_trans hw5 hHeld)).mono ?_
    rintro e V2 ⟨rfl, v2⟩
    show K _ _
    refine hK.out _ _ (ab_trans hHeld v2) (fun hHeld => ?_)
    clear hK K
    refine wpAnyH_ready (rs := [22]) (by kernel_rfl) (by simp) (AllReadyH.cons rfl (fun K hK => ?_) AllReadyH.nil)
    go_simp
    refine (HRo _ (ab_trans hw5 hHeld)).mono ?_
    rintro e V3 ⟨r3, rfl, hI3, v3'⟩
    show K _ _
    refine hK.out _ _ (ab_trans hHeld v3') (fun hHeld => ?_)
    clear hK K
    obtain ⟨q3, c3, e3⟩ := hI3.is.form
    subst e3
    refine takeH (i := 23) (some 55) rfl rfl (by kernel_rfl) (by kernel_rfl) (by kernel_rfl) (fun _ _ _ h => h) (by rfl) (fun w hSw => by (try dsimp only at hSw); go_simp; try rfl) hHeld ?_
    go_frame
    refine takeH (i := 24) (some 56) rfl rfl (by kernel_rfl) (by kernel_rfl) (by kernel_rfl) (fun _ _ _ h => h) (by rfl) (fun w hSw => by (try dsimp only at hSw); go_simp; try rfl) hHeld ?_
    go_frame
    refine takeH (i := 25) (some 57) rfl rfl (by kernel_rfl) (by kernel_rfl) (by kernel_rfl) (fun _ _ _ h => h) (by rfl) (fun w hSw => by (try dsimp only at hSw); go_simp; try rfl) hHeld ?_
    go_frame
    refine takeH (i := 26) (some 58) rfl rfl (by kernel_rfl) (by kernel_rfl) (by kernel_rfl) (fun _ _ _ h => h) (by rfl) (fun w hSw => by (try dsimp only at hSw); go_simp; try rfl) hHeld ?_
    go_frame
    refine takeH (i := 27) (some 59) rfl rfl (by kernel_rfl) (by kernel_rfl) (by kernel_rfl) (fun _ _ _ h => h) (by rfl) (fun w hSw => by (try dsimp only at hSw); go_simp; try rfl) hHeld ?_
    go_frame
    refine takeH (i := 28) (some 60) rfl rfl (by kernel_rfl) (by kernel_rfl) (by kernel_rfl) (fun _ _ _ h => h) (by rfl) (fun w hSw => by (try dsimp only at hSw); (have y2 := keep_cell hSw x2 hX5.lt; go_simp; try rfl)) hHeld ?_
    go_frame
    refine takeH (i := 29) (some 61) rfl rfl (by kernel_rfl) (by kernel_rfl) (by kernel_rfl) (fun _ _ _ h => h) (by rfl) (fun w hSw => by (try dsimp only at hSw); go_simp; try rfl) hHeld ?_
    go_frame
    refine wpAnyH_ready (rs := [30]) (by kernel_rfl) (by simp) (AllReadyH.cons rfl (fun K hK => ?_) AllReadyH.nil)
    go_simp
    refine (gints_any _ _ p.l p.l _ (HVs.out _ (ab_trans hw5 hHeld)) (hres5.keep hHeld) (by rw [HVn.out]; omega) (by rw [HVn.out]; omega)).mono ?_
    rintro e V4 ⟨rfl, v4⟩
    rw [decide_eq_true (rfl : p.l = p.l)]
    show K _ _
    refine hK.out _ _ (ab_trans hHeld v4) (fun hHeld => ?_)
    clear hK K
    refine takeH (i := 31) (some 63) rfl rfl (by kernel_rfl) (by kernel_rfl) (by kernel_rfl) (fun _ _ _ h => h) (by rfl) (fun w hSw => by (try dsimp only at hSw); go_simp; try rfl) hHeld ?_
    go_frame
    refine takeH (i := 32) (some 2) rfl rfl (by kernel_rfl) (by kernel_rfl) (by kernel_rfl) (fun _ _ _ h => h) (by rfl) (fun w hSw => by (try dsimp only at hSw); go_simp; try rfl) hHeld ?_
    go_frame
    refine wpAnyH_done (by kernel_rfl) ?_ _
    have hwE := ab_trans hw5 hHeld
    go_wp2_with fail
    go_ret
    exact ⟨rfl, hwE⟩
  · simp only [hg, if_true] at HC HGd
    go_upto_region 7 with (first
      | (refine lw_pn (p := p) rfl rfl rfl hX3 ?_)
      | (go_at_call 9; refine (HC _ hw3).mono ?_; rintro e W4 ⟨rfl, b4⟩))
    have hX4 := hX3.keep b4
    have hw4 := ab_trans hw3 b4
    go_upto_region 9 with (first
      | (refine lw_pn (p := p) rfl rfl rfl hX4 ?_)
      | (go_at_call 10; refine (HGd _ hw4).mono ?_; rintro e W5 ⟨rfl, b5⟩))
    have hX5 := hX4.keep b5
    have hw5 := ab_trans hw4 b5
    have hres5 := hres.keep (ab_trans b4 b5)
    have x2 : W5.cell? ⟨W.heap.size, 2, none⟩ = some (.slice q n cap) := keep_cell (ab_trans b3 (ab_trans b4 b5)) x2 hX1.lt
    have x3 : W5.cell? ⟨W.heap.size, 3, none⟩ = some (.int .i64 p.sh) := hX5.at rfl
    clear hX3 hX4 hw3 hw4 b4 b5 hres HC HGd
    go_upto_region 11 with fail
    rw [HLs.out hg]
    clear HLs HLz hg hg3 x3
    refine wp_region_held_drew (S := fun w' => Below W5.heap.size W5 w') (by kernel_rfl) (ab_drew (Below.refl _ _)) (fun hHeld => ?_)
    refine takeH (i := 0) (some 32) rfl rfl (by kernel_rfl) (by kernel_rfl) (by kernel_rfl) (fun _ _ _ h => h) (by rfl) (fun w hSw => by (try dsimp only at hSw); go_simp; try rfl) hHeld ?_
    go_frame
    refine takeH (i := 1) (some 33) rfl rfl (by kernel_rfl) (by kernel_rfl) (by kernel_rfl) (fun _ _ _ h => h) (by rfl) (fun w hSw => by (try dsimp only at hSw); go_simp; try rfl) hHeld ?_
    go_frame
    refine takeH (i := 2) (some 34) rfl rfl (by kernel_rfl) (by kernel_rfl) (by kernel_rfl) (fun _ _ _ h => h) (by rfl) (fun w hSw => by (try dsimp only at hSw); go_simp; try rfl) hHeld ?_
    go_frame
    refine takeH (i := 3) (some 35) rfl rfl (by kernel_rfl) (by kernel_rfl) (by kernel_rfl) (fun _ _ _ h => h) (by rfl) (fun w hSw => by (try dsimp only at hSw); go_simp; try rfl) hHeld ?_
    go_frame
    refine takeH (i := 4) (some 36) rfl rfl (by kernel_rfl) (by kernel_rfl) (by kernel_rfl) (fun _ _ _ h => h) (by rfl) (fun w hSw => by (try dsimp only at hSw); go_simp; try rfl) hHeld ?_
    go_frame
    refine takeH (i := 5) (some 37) rfl rfl (by kernel_rfl) (by kernel_rfl) (by kernel_rfl) (fun _ _ _ h => h) (by rfl) (fun w hSw => by (try dsimp only at hSw); go_simp; try rfl) hHeld ?_
    go_frame
    refine takeH (i := 6) (some 38) rfl rfl (by kernel_rfl) (by kernel_rfl) (by kernel_rfl) (fun _ _ _ h => h) (by rfl) (fun w hSw => by (try dsimp only at hSw); go_simp; try rfl) hHeld ?_
    go_frame
    refine skipH (i := 7) (some 39) rfl rfl (by kernel_rfl) (by kernel_rfl) (by kernel_rfl) (fun _ _ _ h => h) (by rfl) hHeld ?_
    go_frame
    refine skipH (i := 8) (some 40) rfl rfl (by kernel_rfl) (by kernel_rfl) (by kernel_rfl) (fun _ _ _ h => h) (by rfl) hHeld ?_
    go_frame
    refine skipH (i := 9) (some 41) rfl rfl (by kernel_rfl) (by kernel_rfl) (by kernel_rfl) (fun _ _ _ h => h) (by rfl) hHeld ?_
    go_frame
    refine takeH (i := 10) (some 42) rfl rfl (by kernel_rfl) (by kernel_rfl) (by kernel_rfl) (fun _ _ _ h => h) (by rfl) (fun w hSw => by (try dsimp only at hSw); go_simp; try rfl) hHeld ?_
    go_frame
    refine takeH (i := 11) (some 43) rfl rfl (by kernel_rfl) (by kernel_rfl) (by kernel_rfl) (fun _ _ _ h => h) (by rfl) (fun w hSw => by (try dsimp only at hSw); go_simp; try rfl) hHeld ?_
    go_frame
    refine takeH (i := 12) (some 44) rfl rfl (by kernel_rfl) (by kernel_rfl) (by kernel_rfl) (fun _ _ _ h => h) (by rfl) (fun w hSw => by (try dsimp only at hSw); go_simp; try rfl) hHeld ?_
    go_frame
    refine takeH (i := 13) (some 45) rfl rfl (by kernel_rfl) (by kernel_rfl) (by kernel_rfl) (fun _ _ _ h => h) (by rfl) (fun w hSw => by (try dsimp only at hSw); exact ld_pnr rfl rfl (hX5.keep hSw)) hHeld ?_
    go_frame
    refine takeH (i := 15) (some 47) rfl rfl (by kernel_rfl) (by kernel_rfl) (by kernel_rfl) (fun _ _ _ h => h) (by rfl) (fun w hSw => by (try dsimp only at hSw); go_simp; try rfl) hHeld ?_
    go_frame
    refine wpAnyH_ready (rs := [14]) (by kernel_rfl) (by simp) (AllReadyH.cons rfl (fun K hK => ?_) AllReadyH.nil)
    go_simp
    refine (HLn _ (ab_trans hw5 hHeld)).mono ?_
    rintro e V1 ⟨rfl, v1⟩
    show K _ _
    refine hK.out _ _ (ab_trans hHeld v1) (fun hHeld => ?_)
    clear hK K
    refine takeH (i := 16) (some 48) rfl rfl (by kernel_rfl) (by kernel_rfl) (by kernel_rfl) (fun _ _ _ h => h) (by rfl) (fun w hSw => by (try dsimp only at hSw); go_simp; try rfl) hHeld ?_
    go_frame
    refine takeH (i := 17) (some 49) rfl rfl (by kernel_rfl) (by kernel_rfl) (by kernel_rfl) (fun _ _ _ h => h) (by rfl) (fun w hSw => by (try dsimp only at hSw); go_simp; try rfl) hHeld ?_
    go_frame
    refine takeH (i := 18) (some 50) rfl rfl (by kernel_rfl) (by kernel_rfl) (by kernel_rfl) (fun _ _ _ h => h) (by rfl) (fun w hSw => by (try dsimp only at hSw); go_simp; try rfl) hHeld ?_
    go_frame
    refine takeH (i := 19) (some 51) rfl rfl (by kernel_rfl) (by kernel_rfl) (by kernel_rfl) (fun _ _ _ h => h) (by rfl) (fun w hSw => by (try dsimp only at hSw); exact ld_pnr rfl rfl (hX5.keep hSw)) hHeld ?_
    go_frame
    refine takeH (i := 21) (some 53) rfl rfl (by kernel_rfl) (by kernel_rfl) (by kernel_rfl) (fun _ _ _ h => h) (by rfl) (fun w hSw => by (try dsimp only at hSw); exact ld_pnr rfl rfl (hX5.keep hSw)) hHeld ?_
    go_frame
    refine wpAnyH_ready (rs := [20]) (by kernel_rfl) (by simp) (AllReadyH.cons rfl (fun K hK => ?_) AllReadyH.nil)
    go_simp
    refine (HNo _ (ab_trans hw5 hHeld)).mono ?_
    rintro e V2 ⟨rfl, v2⟩
    show K _ _
    refine hK.out _ _ (ab_trans hHeld v2) (fun hHeld => ?_)
    clear hK K
    refine wpAnyH_ready (rs := [22]) (by kernel_rfl) (by simp) (AllReadyH.cons rfl (fun K hK => ?_) AllReadyH.nil)
    go_simp
    refine (HRo _ (ab_trans hw5 hHeld)).mono ?_
    rintro e V3 ⟨r3, rfl, hI3, v3'⟩
    show K _ _
    refine hK.out _ _ (ab_trans hHeld v3') (fun hHeld => ?_)
    clear hK K
    obtain ⟨q3, c3, e3⟩ := hI3.is.form
    subst e3
    refine takeH (i := 23) (some 55) rfl rfl (by kernel_rfl) (by kernel_rfl) (by kernel_rfl) (fun _ _ _ h => h) (by rfl) (fun w hSw => by (try dsimp only at hSw); go_simp; try rfl) hHeld ?_
    go_frame
    refine takeH (i := 24) (some 56) rfl rfl (by kernel_rfl) (by kernel_rfl) (by kernel_rfl) (fun _ _ _ h => h) (by rfl) (fun w hSw => by (try dsimp only at hSw); go_simp; try rfl) hHeld ?_
    go_frame
    refine takeH (i := 25) (some 57) rfl rfl (by kernel_rfl) (by kernel_rfl) (by kernel_rfl) (fun _ _ _ h => h) (by rfl) (fun w hSw => by (try dsimp only at hSw); go_simp; try rfl) hHeld ?_
    go_frame
    refine takeH (i := 26) (some 58) rfl rfl (by kernel_rfl) (by kernel_rfl) (by kernel_rfl) (fun _ _ _ h => h) (by rfl) (fun w hSw => by (try dsimp only at hSw); go_simp; try rfl) hHeld ?_
    go_frame
    refine takeH (i := 27) (some 59) rfl rfl (by kernel_rfl) (by kernel_rfl) (by kernel_rfl) (fun _ _ _ h => h) (by rfl) (fun w hSw => by (try dsimp only at hSw); go_simp; try rfl) hHeld ?_
    go_frame
    refine takeH (i := 28) (some 60) rfl rfl (by kernel_rfl) (by kernel_rfl) (by kernel_rfl) (fun _ _ _ h => h) (by rfl) (fun w hSw => by (try dsimp only at hSw); (have y2 := keep_cell hSw x2 hX5.lt; go_simp; try rfl)) hHeld ?_
    go_frame
    refine takeH (i := 29) (some 61) rfl rfl (by kernel_rfl) (by kernel_rfl) (by kernel_rfl) (fun _ _ _ h => h) (by rfl) (fun w hSw => by (try dsimp only at hSw); go_simp; try rfl) hHeld ?_
    go_frame
    refine wpAnyH_ready (rs := [30]) (by kernel_rfl) (by simp) (AllReadyH.cons rfl (fun K hK => ?_) AllReadyH.nil)
    go_simp
    refine (gints_any _ _ p.l p.l _ (HVs.out _ (ab_trans hw5 hHeld)) (hres5.keep hHeld) (by rw [HVn.out]; omega) (by rw [HVn.out]; omega)).mono ?_
    rintro e V4 ⟨rfl, v4⟩
    rw [decide_eq_true (rfl : p.l = p.l)]
    show K _ _
    refine hK.out _ _ (ab_trans hHeld v4) (fun hHeld => ?_)
    clear hK K
    refine takeH (i := 31) (some 63) rfl rfl (by kernel_rfl) (by kernel_rfl) (by kernel_rfl) (fun _ _ _ h => h) (by rfl) (fun w hSw => by (try dsimp only at hSw); go_simp; try rfl) hHeld ?_
    go_frame
    refine takeH (i := 32) (some 2) rfl rfl (by kernel_rfl) (by kernel_rfl) (by kernel_rfl) (fun _ _ _ h => h) (by rfl) (fun w hSw => by (try dsimp only at hSw); go_simp; try rfl) hHeld ?_
    go_frame
    refine wpAnyH_done (by kernel_rfl) ?_ _
    have hwE := ab_trans hw5 hHeld
    go_wp2_with fail
    go_ret
    exact ⟨rfl, hwE⟩
theorem walk {W : World} (so : Int) (hso : -9223372036854775808 ≤ so ∧ so ≤ 9223372036854775807) (ke : Int) (hke : -9223372036854775808 ≤ ke ∧ ke ≤ 9223372036854775807) (v : Value) (l : List Int) (hv : Is W v l) (hl : In64 l) (sh : Int) (hsh : -9223372036854775808 ≤ sh ∧ sh ≤ 9223372036854775807) (ho : Int) (hho : -9223372036854775808 ≤ ho ∧ ho ≤ 9223372036854775807) (ce : Int) (hce : -9223372036854775808 ≤ ce ∧ ce ≤ 9223372036854775807) (ba : Int) (hba : -9223372036854775808 ≤ ba ∧ ba ≤ 9223372036854775807) (le : Int) (hle : -9223372036854775808 ≤ le ∧ le ≤ 9223372036854775807) :
    Calls Try.prog 3 #[.agg #[.int .i64 so, .int .i64 ke, v, .int .i64 sh, .int .i64 ho, .int .i64 ce, .int .i64 ba, .int .i64 le]] W fun e w' => e = .returned (.bool true) ∧ Below W.heap.size W w' := checks_any ⟨so, ke, v, l, sh, ho, ce, ba, le⟩ W hv
theorem own : ownKnob Try.prog.godebug = none := by kernel_rfl
theorem laidOut : laidOutB Try.prog = true := by kernel_rfl

set_option maxRecDepth 100000 in
theorem lifted (os : Os) (started : os.Started) (H : Type) (enc : TypeId × Value → H) :
    ReturnsInHanded {} Try.checked os 3 .any (Rows.planChecksSpec.pre6 enc Try.prog Try.f3 Rows.planChecksRow.domain false) (Rows.planChecksSpec.post enc Try.prog Try.f3 false true false false) := by
  refine returnsInHanded_of_change (C := Try.checked) own started (by kernel_rfl) Try.func3
    (ChangeSpec.witness6 (enc := enc) (C := Try.checked) false ⟨#[], #[.agg #[.int .i64 0, .int .i64 0, .slice none 0 0, .int .i64 0, .int .i64 0, .int .i64 0, .int .i64 0, .int .i64 0]], []⟩ 8 (by kernel_rfl) (by kernel_rfl) (by kernel_rfl) (by kernel_rfl)) ?_
  intro W base args ds gs before hval0 hW hcnd _
  have hval : ∀ (j : Nat) t v, Try.f3.params[j]? = some t → args[j]? = some v → Value.okWide Try.prog W .any base t v := hval0
  have hW' := hW
  obtain ⟨p, q, hA0, hV, rfl, hfz, hnd⟩ := hW
  have hA : DataW.TrodAll enc Try.prog W 0 (fun _ => true) true Try.f3.params.toList args.toList ds p := hA0
  rw [Try.params3] at hA hval
  obtain ⟨v0, vs0, d0, ds0, p0, q0, hargs, rfl, rfl, h0, r0⟩ := trodAll_cons hA
  obtain ⟨rfl, rfl, rfl⟩ := trodAll_nil r0
  obtain rfl : args = #[v0] := by cases args; simp_all
  obtain ⟨rfl, rfl⟩ := trodVars_none hV
  have k0 := h0
  have lt0 : ∀ x ∈ p0, x.block < W.heap.size := by obtain ⟨m, hm⟩ := k0; exact DataW.trod_lt m _ _ _ hm
  obtain ⟨cs0, rfl, hz0, fm0, hx0⟩ := open_struct (n := 8) Try.underlying24 (by kernel_rfl) (hval 0 24 v0 rfl rfl) h0
  obtain ⟨e0_0, e0_1, e0_2, e0_3, e0_4, e0_5, e0_6, e0_7, rfl⟩ : ∃ e0_0 e0_1 e0_2 e0_3 e0_4 e0_5 e0_6 e0_7, cs0 = #[e0_0, e0_1, e0_2, e0_3, e0_4, e0_5, e0_6, e0_7] := by
    refine ⟨cs0[0], cs0[1], cs0[2], cs0[3], cs0[4], cs0[5], cs0[6], cs0[7], ?_⟩
    apply Array.ext
    · simpa using hz0
    · intro i h1 h2
      have : i = 0 ∨ i = 1 ∨ i = 2 ∨ i = 3 ∨ i = 4 ∨ i = 5 ∨ i = 6 ∨ i = 7 := by omega
      rcases this with rfl | rfl | rfl | rfl | rfl | rfl | rfl | rfl <;> rfl
  obtain ⟨fy0_0, fg0_0⟩ := hx0 0 _ rfl
  obtain ⟨a0_0, ea0_0, w0_0⟩ := flat_cell 8 _ 3 _ _ 0 .i64 fg0_0 (by kernel_rfl)
  obtain rfl : e0_0 = .int .i64 a0_0 := by have h9 : ([e0_0] : List Value)[0]? = some (Value.int .i64 a0_0) := ea0_0; simpa using h9
  obtain ⟨fy0_1, fg0_1⟩ := hx0 1 _ rfl
  obtain ⟨a0_1, ea0_1, w0_1⟩ := flat_cell 8 _ 3 _ _ 0 .i64 fg0_1 (by kernel_rfl)
  obtain rfl : e0_1 = .int .i64 a0_1 := by have h9 : ([e0_1] : List Value)[0]? = some (Value.int .i64 a0_1) := ea0_1; simpa using h9
  obtain ⟨fy0_2, fg0_2⟩ := hx0 2 _ rfl
  obtain ⟨sq0_2, sg0_2, so0_2, sn0_2, sk0_2, sl0_2, ee0_2, hl0_2, hk0_2, hm0_2, hp0_2, hg0_2, hc0_2⟩ := rows_of (n := 1) (D := 8) (fun _ => .i64) Try.underlying22 (by kernel_rfl) (by omega) (kinds_of (by kernel_rfl)) fg0_2
  obtain rfl : e0_2 = .slice sq0_2 sn0_2 sk0_2 := by have h9 : [e0_2] = [Value.slice sq0_2 sn0_2 sk0_2] := ee0_2; simpa using h9
  obtain ⟨S0_2_, B0_2_⟩ := is_rows hl0_2 hk0_2 hm0_2 hp0_2 hg0_2 hc0_2
  obtain ⟨fy0_3, fg0_3⟩ := hx0 3 _ rfl
  obtain ⟨a0_3, ea0_3, w0_3⟩ := flat_cell 8 _ 3 _ _ 0 .i64 fg0_3 (by kernel_rfl)
  obtain rfl : e0_3 = .int .i64 a0_3 := by have h9 : ([e0_3] : List Value)[0]? = some (Value.int .i64 a0_3) := ea0_3; simpa using h9
  obtain ⟨fy0_4, fg0_4⟩ := hx0 4 _ rfl
  obtain ⟨a0_4, ea0_4, w0_4⟩ := flat_cell 8 _ 3 _ _ 0 .i64 fg0_4 (by kernel_rfl)
  obtain rfl : e0_4 = .int .i64 a0_4 := by have h9 : ([e0_4] : List Value)[0]? = some (Value.int .i64 a0_4) := ea0_4; simpa using h9
  obtain ⟨fy0_5, fg0_5⟩ := hx0 5 _ rfl
  obtain ⟨a0_5, ea0_5, w0_5⟩ := flat_cell 8 _ 3 _ _ 0 .i64 fg0_5 (by kernel_rfl)
  obtain rfl : e0_5 = .int .i64 a0_5 := by have h9 : ([e0_5] : List Value)[0]? = some (Value.int .i64 a0_5) := ea0_5; simpa using h9
  obtain ⟨fy0_6, fg0_6⟩ := hx0 6 _ rfl
  obtain ⟨a0_6, ea0_6, w0_6⟩ := flat_cell 8 _ 3 _ _ 0 .i64 fg0_6 (by kernel_rfl)
  obtain rfl : e0_6 = .int .i64 a0_6 := by have h9 : ([e0_6] : List Value)[0]? = some (Value.int .i64 a0_6) := ea0_6; simpa using h9
  obtain ⟨fy0_7, fg0_7⟩ := hx0 7 _ rfl
  obtain ⟨a0_7, ea0_7, w0_7⟩ := flat_cell 8 _ 3 _ _ 0 .i64 fg0_7 (by kernel_rfl)
  obtain rfl : e0_7 = .int .i64 a0_7 := by have h9 : ([e0_7] : List Value)[0]? = some (Value.int .i64 a0_7) := ea0_7; simpa using h9
  clear hA0 hval0
  refine (walk a0_0 (bounds_i64 w0_0) a0_1 (bounds_i64 w0_1) (.slice sq0_2 sn0_2 sk0_2) _ S0_2_ B0_2_ a0_3 (bounds_i64 w0_3) a0_4 (bounds_i64 w0_4) a0_5 (bounds_i64 w0_5) a0_6 (bounds_i64 w0_6) a0_7 (bounds_i64 w0_7)).mono fun e W' ⟨he, bel⟩ => ?_
  subst he
  exact ⟨_, rfl, _, _, _, [], _, [], hW', trodAll_mk1 (shut_bool Try.underlying4 _), (trodAll_cons_mk (Below.trod laidOut (by kernel_rfl) (of_decide_eq_true (by kernel_rfl)) k0 bel lt0) trodAll_mk0), rfl, bel.frame _, fun h => by cases h⟩

theorem over : Rows.planChecksRow.holds Try.pinned (OpenSpec.ofChange Rows.planChecksSpec) :=
  OpenClaim.holds_of_wide 3 Try.f3 rfl rfl rfl rfl rfl rfl rfl ⟨rfl, rfl, rfl, rfl, rfl⟩ rfl rfl rfl rfl rfl (by kernel_rfl) Try.func3 (by kernel_rfl)
    (of_decide_eq_true (by kernel_rfl)) (by unfold Func.isWrapper; first | (rw [if_pos (by decide +kernel)]; kernel_rfl) | (rw [if_neg (by decide +kernel)]; exact ⟨rfl, rfl⟩))
    (fun os started H enc _ => lifted os started H enc)

theorem proved : Rows.PlanChecksSaid := over
end Go.Proofs.Ytnooedipanhkjaa.planChecks
namespace Go.Proofs.Ytnooedipanhkjaa
theorem planChecks_holds : Rows.PlanChecksSaid := planChecks.proved
#print axioms planChecks_holds
end Go.Proofs.Ytnooedipanhkjaa
