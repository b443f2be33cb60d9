/-
  What a register answers to a Prepare and to an Accept, as the document says; neither the register nor the value is changed or shared: estuarylaw09.BallotAsks returns true for every input; no condition.
-/
import Derived.Test.YthpiajnnfchcjaaBlF
import Derived.Test.YthpiajnnfchcjaaBlG
import Derived.Test.YthpiajnnfchcjaaFrL
import Derived.ProofKit
import Derived.OpenShut
import Derived.ChangeOld
import Derived.Below
namespace Go.Proofs.Ythpiajnnfchcjaa.ballotAsks
open Go.ChangeShapes Go.WideShapes Go.ChangeAt Go.RowKit Go.Joins
set_option linter.unusedVariables false

theorem ints_is (v u : Value) (l m : List Int) (w : World) (hv : Is w v l) (hu : Is w u m) (hl : l.length ≤ 100000) (hm : m.length ≤ 100000) :
    Calls Try.prog 22 #[v, u] w fun e w' => e = .returned (.bool (decide (l = m))) ∧ Below w.heap.size w w' := by
  obtain ⟨q, cap, g, off, rfl, h1, h2, h3, h4, h5⟩ := hv
  obtain ⟨q', cap', g', off', rfl, k1, k2, k3, k4, k5⟩ := hu
  exact ints_any _ _ _ _ _ l _ _ _ _ _ m w rfl rfl hl hm h3 k3 h5 k5 h4 k4
theorem num_any (n : Nat) (w : World) : Calls Try.prog 18 #[errV n] w fun e w' => e = .returned (.int .i64 ((n : Nat) : Int)) ∧ w' = w := by
  by_cases h : n = 0
  · subst h
    exact num_nil w
  · rw [errV_no h]
    exact num_err n (by omega) w
theorem pr_le (r : Rg) (b : Bt) : (prR r b).l.length ≤ 32 := by
  by_cases h : prN r b = 0
  · rw [prR_ok h]
    unfold prN at h
    cases hg : (gdR r && asB b)
    · rw [hg] at h; simp at h
    · rw [Bool.and_eq_true] at hg
      exact (gd_le hg.1 : r.l.length ≤ 32)
  · rw [prR_no h]; decide
theorem ac_le (r : Rg) (b : Bt) (m : List Int) : (acR r b m).l.length ≤ 32 := by
  by_cases h : acN r b m = 0
  · rw [acR_ok h]
    unfold acN at h
    cases hg : (gdR r && (asB b && decide (m.length ≤ 32)))
    · rw [hg] at h; simp at h
    · rw [Bool.and_eq_true, Bool.and_eq_true] at hg
      exact of_decide_eq_true hg.2.2
  · rw [acR_no h]; decide
/-- Nothing but the block of a slice has turned. -/
def Only (v : Value) (V W : World) : Prop := (∀ g, v.ownBlock = some g → Chg g V W) ∧ (v.ownBlock = none → W = V)
theorem Only.refl (v : Value) (V : World) : Only v V V := ⟨fun g _ => Chg.refl _ _, fun _ => rfl⟩
theorem Only.set {v : Value} {V W : World} {g : Nat} (h : Only v V W) (hg : v.ownBlock = some g) (i : Nat) (x : Value) : Only v V (W.setCell ⟨g, i, none⟩ x) :=
  ⟨fun g' h' => by rw [hg] at h'; cases h'; exact (h.1 g hg).trans (chg_set _ _ _ _), fun h' => by rw [hg] at h'; cases h'⟩
theorem Only.blk {v : Value} {V W : World} (h : Only v V W) {b : Nat} {cs : Array Value} {t : TypeId} (hB : Blk V b cs t) (hn : v.ownBlock ≠ some b) : Blk W b cs t := by
  cases hv : v.ownBlock with
  | none => rw [h.2 hv]; exact hB
  | some g => exact hB.chg (h.1 g hv) (fun e => hn (by rw [hv, e]))
theorem Only.io {v u : Value} {V W : World} (h : Only v V W) {base : Nat} {l : List Int} (hO : Io V base u l) (hs : Sep v u) : Io W base u l := by
  cases hv : v.ownBlock with
  | none => rw [h.2 hv]; exact hO
  | some g => exact own_chgT hO (h.1 g hv) (hs g hv)
theorem Only.below {v : Value} {V W : World} (h : Only v V W) {n : Nat} (hn : ∀ g, v.ownBlock = some g → n ≤ g) : Below n V W := by
  cases hv : v.ownBlock with
  | none => rw [h.2 hv]; exact Below.refl _ _
  | some g => exact (h.1 g hv).below (hn g hv)
set_option maxHeartbeats 2000000 in
set_option maxRecDepth 100000 in
theorem asks_walk (r : Rg) (b : Bt) (v u : Value) (m : List Int) (w : World) (hv : Is w v r.l) (hu : Is w u m) :
    Calls Try.prog 4 #[rV r.p r.a v, bV b, u] w fun e w' => e = .returned (.bool true) ∧ Below w.heap.size w w' := by
  obtain ⟨q, c, e⟩ := hv.form
  subst e
  obtain ⟨qu, cu, e⟩ := hu.form
  subst e
  obtain ⟨n, hn⟩ : ∃ n, r.l.length = n := ⟨_, rfl⟩
  obtain ⟨k, hk⟩ : ∃ k, m.length = k := ⟨_, rfl⟩
  rw [hn] at hv ⊢
  rw [hk] at hu ⊢
  go_enter Try.func4, Try.ntmps4
  go_upto_region 1 with fail
  obtain ⟨A, hAe, hR, hB, hw⟩ := blk2 w (rC r.p r.a (.slice q n c)) (bC b) 31 23
  rw [hAe]
  clear hAe
  go_upto_region 3 with (go_at_call 11; refine (alive9_any _).mono ?_; rintro e W1 ⟨rfl, b1⟩)
  have hR1 := hR.keep b1
  have hB1 := hB.keep b1
  have hw1 := ab_trans hw b1
  clear hR hB hw b1
  have y6 : W1.cell? ⟨w.heap.size, 6, none⟩ = some (.slice q n c) := hR1.at rfl
  by_cases c1 : n ≤ 500
  rotate_left
  · have c2 : ¬ (n : Int) ≤ 500 := by omega
    go_wp2_with fail
    go_ret
    exact ⟨rfl, hw1⟩
  by_cases c2 : k ≤ 500
  rotate_left
  · have c3 : ¬ (k : Int) ≤ 500 := by omega
    have c4 : (n : Int) ≤ 500 := by omega
    go_wp2_with fail
    go_ret
    exact ⟨rfl, hw1⟩
  have c3 : (k : Int) ≤ 500 := by omega
  have c4 : (n : Int) ≤ 500 := by omega
  go_upto_region 5 with fail
  clear y6 c3 c4
  obtain ⟨x0, x1, x2, x3, x4, x5, x6⟩ := cells7 hR1
  have hbv := Below.refl W1.heap.size W1
  go_upto_region 6 with (first
    | (go_at_call 12; refine (copied9_any r.p r.a _ r.l _ (hv.keep hw1) (by omega)).mono ?_; rintro e W2 ⟨vc, rfl, hC2, b2⟩; obtain ⟨qc, cc, ec⟩ := hC2.is.form; rw [hn] at ec; subst ec)
    | (have mk := b2; clear mk; refine bs_own rfl rfl [] (vs := #[]) (by simp) (isl0 _) rfl (by decide) ?_; intro W3 hN3 b3 z3; clear z3)
    | (at_builtin; refine app_i W2 rfl rfl rfl hN3 rfl (hu.keep (ab_trans hw1 (ab_trans b2 b3))) hk (by omega) b3 ?_; intro v4 W4 hown4 hnil4 b4 hgr4 hat4))
  have O4 : Io W4 W2.heap.size v4 m := io_of (by simpa using hown4)
  obtain ⟨q4, c4, e4⟩ := O4.is.form
  rw [hk] at e4
  subst e4
  obtain ⟨V, hE, hX, b4'⟩ := blk1 W4 (rC r.p r.a (.slice qc n cc)) 31
  rw [hE]
  have hb24 := ab_trans b4 b4'
  have hRV := hR1.keep (ab_trans b2 hb24)
  have hBV := hB1.keep (ab_trans b2 hb24)
  have hwV := ab_trans hw1 (ab_trans b2 hb24)
  have hCV := hC2.keep hb24
  have OV := O4.keep b4'
  clear hE x0 x1 x2 x3 x4 x5 x6 hbv hR1 hB1 hw1 hC2 b2 b3 hN3 hown4 hnil4 hgr4 hat4 O4 b4 b4' hb24
  generalize W4.heap.size = g7 at *
  generalize W2.heap.size = z2 at *
  generalize W1.heap.size = z1 at *
  have HP : Hid ((prR r b).l.length ≤ 32) := pr_le r b
  have HQ : Hid ((acR r b m).l.length ≤ 32) := ac_le r b m
  obtain ⟨P, hP⟩ : ∃ P, prR r b = P := ⟨_, rfl⟩
  obtain ⟨N, hN⟩ : ∃ N, prN r b = N := ⟨_, rfl⟩
  obtain ⟨Y, hY⟩ : ∃ P, acR r b m = P := ⟨_, rfl⟩
  obtain ⟨M, hM⟩ : ∃ N, acN r b m = N := ⟨_, rfl⟩
  rw [hP] at HP
  rw [hY] at HQ
  obtain ⟨x0, x1, x2, x3, x4, x5, x6⟩ := cells7 hX
  obtain ⟨y0, y1, y2⟩ := cells3 hBV
  have hbv := Below.refl V.heap.size V
  go_upto_region 7 with (go_at_call 13; refine (prepare_any r b _ _ hCV.is).mono ?_; rintro e W5 ⟨⟨q5, n5, c5, rfl, hO5, hn5⟩, b5⟩; rw [hP] at hO5 hn5 ⊢; rw [hN])
  obtain ⟨V5, hE, hP5, b5'⟩ := blk1 W5 (rC P.p P.a (.slice q5 n5 c5)) 31
  rw [hE]
  have hbv5 := ab_trans b5 b5'
  have O5 := hO5.keep b5'
  have hbv := hbv5
  clear hE x0 x1 x2 x3 x4 x5 x6 hO5 b5 b5'
  generalize W5.heap.size = g9 at *
  obtain ⟨x0, x1, x2, x3, x4, x5, x6⟩ := cells7 hRV
  go_upto_region 8 with (go_at_call 14; refine (rprepare_any r b _ _ (hv.keep (ab_trans hwV hbv5))).mono ?_; rintro e W6 ⟨⟨q6, n6, c6, rfl, hI6, hn6⟩, b6⟩; rw [hP] at hI6 hn6 ⊢; rw [hN])
  obtain ⟨V6, hE, hQ6, b6'⟩ := blk1 W6 (rC P.p P.a (.slice q6 n6 c6)) 31
  rw [hE]
  have hb56 := ab_trans b6 b6'
  have hbv6 := ab_trans hbv5 hb56
  have I6 := hI6.keep b6'
  have O6 := O5.keep hb56
  have hP6 := hP5.keep hb56
  have hbv := hbv6
  clear hE hI6 b6 b6' O5 hP5 hb56 x0 x1 x2 x3 x4 x5 x6
  generalize W6.heap.size = g11 at *
  obtain ⟨x0, x1, x2, x3, x4, x5, x6⟩ := cells7 hX
  go_upto_region 9 with (go_at_call 15; refine (accept_any r b _ _ m _ (hCV.is.keep hbv6) (OV.is.keep hbv6)).mono ?_; rintro e W7 ⟨⟨q7, n7, c7, rfl, hO7, hn7⟩, b7⟩; rw [hY] at hO7 hn7 ⊢; rw [hM])
  obtain ⟨V7, hE, hA7, b7'⟩ := blk1 W7 (rC Y.p Y.a (.slice q7 n7 c7)) 31
  rw [hE]
  have hb67 := ab_trans b7 b7'
  have hbv7 := ab_trans hbv6 hb67
  have O7 := hO7.keep b7'
  have I67 := I6.keep hb67
  have O67 := O6.keep hb67
  have hP7 := hP6.keep hb67
  have hQ7 := hQ6.keep hb67
  have hbv := hbv7
  clear hE hO7 b7 b7' I6 hP6 hQ6 x0 x1 x2 x3 x4 x5 x6
  generalize W7.heap.size = g13 at *
  obtain ⟨x0, x1, x2, x3, x4, x5, x6⟩ := cells7 hRV
  go_upto_region 10 with (go_at_call 16; refine (raccept_any r b _ _ m _ (hv.keep (ab_trans hwV hbv7)) (hu.keep (ab_trans hwV hbv7))).mono ?_; rintro e W8 ⟨⟨q8, n8, c8, rfl, hI8, hn8⟩, b8⟩; rw [hY] at hI8 hn8 ⊢; rw [hM])
  obtain ⟨V8, hE, hD8, b8'⟩ := blk1 W8 (rC Y.p Y.a (.slice q8 n8 c8)) 31
  rw [hE]
  have hb78 := ab_trans b8 b8'
  have hbv8 := ab_trans hbv7 hb78
  have I8 := hI8.keep b8'
  have O78 := O7.keep hb78
  have I678 := I67.keep hb78
  have O678 := O67.keep hb78
  have hP8 := hP7.keep hb78
  have hQ8 := hQ7.keep hb78
  have hA8 := hA7.keep hb78
  clear hE hI8 b8 b8' O7 I67 O67 hP7 hQ7 hA7 x0 x1 x2 x3 x4 x5 x6 y0 y1 y2 hbv hP hN hY hM
  generalize W8.heap.size = g15 at *
  have HGd : Hid (gdN r.p r.a n = gdR r) := by show _ = _; unfold gdR; rw [hn]
  have D : ∀ W, Below V8.heap.size V8 W → Blk W g9 (rC P.p P.a (.slice q5 n5 c5)) 31 ∧ Blk W g11 (rC P.p P.a (.slice q6 n6 c6)) 31 ∧ Blk W g13 (rC Y.p Y.a (.slice q7 n7 c7)) 31 ∧ Blk W g15 (rC Y.p Y.a (.slice q8 n8 c8)) 31 ∧ Blk W g7 (rC r.p r.a (.slice qc n cc)) 31 ∧ Blk W w.heap.size (rC r.p r.a (.slice q n c)) 31 :=
    fun W hb => ⟨hP8.keep hb, hQ8.keep hb, hA8.keep hb, hD8.keep hb, hX.keep (ab_trans hbv8 hb), hRV.keep (ab_trans hbv8 hb)⟩
  refine wp_region_held_drew (S := fun w' => Below V8.heap.size V8 w') (by kernel_rfl) (ab_drew (Below.refl _ _)) (fun hHeld => ?_)
  refine takeH (i := 0) (some 61) rfl rfl (by kernel_rfl) (by kernel_rfl) (by kernel_rfl) (fun _ _ _ h => h) (by rfl) (fun w hSw => by (try dsimp only at hSw); have hh := (D _ hSw).1; have y0 := hh.at (i := 0) rfl; have y1 := hh.at (i := 1) rfl; have y2 := hh.at (i := 2) rfl; have y3 := hh.at (i := 3) rfl; have y4 := hh.at (i := 4) rfl; have y5 := hh.at (i := 5) rfl; have y6 := hh.at (i := 6) rfl; go_simp; try rfl) hHeld ?_
  go_frame
  refine takeH (i := 1) (some 62) rfl rfl (by kernel_rfl) (by kernel_rfl) (by kernel_rfl) (fun _ _ _ h => h) (by rfl) (fun w hSw => by (try dsimp only at hSw); have hh := (D _ hSw).2.1; have y0 := hh.at (i := 0) rfl; have y1 := hh.at (i := 1) rfl; have y2 := hh.at (i := 2) rfl; have y3 := hh.at (i := 3) rfl; have y4 := hh.at (i := 4) rfl; have y5 := hh.at (i := 5) rfl; have y6 := hh.at (i := 6) rfl; go_simp; try rfl) hHeld ?_
  go_frame
  refine wpAnyH_ready (rs := [2]) (by kernel_rfl) (by simp) (AllReadyH.cons rfl (fun K hK => ?_) AllReadyH.nil)
  go_simp
  refine (same9_yes P _ _ _ (O678.is.keep hHeld) (I678.keep hHeld) (by have := HP.out; omega)).mono ?_
  rintro e Z2 ⟨rfl, bz2⟩
  show K _ _
  refine hK.out _ _ (ab_trans hHeld bz2) (fun hHeld => ?_)
  clear hK K
  refine takeH (i := 3) (some 64) rfl rfl (by kernel_rfl) (by kernel_rfl) (by kernel_rfl) (fun _ _ _ h => h) (by rfl) (fun w hSw => by (try dsimp only at hSw); go_simp; try rfl) hHeld ?_
  go_frame
  refine takeH (i := 4) (some 65) rfl rfl (by kernel_rfl) (by kernel_rfl) (by kernel_rfl) (fun _ _ _ h => h) (by rfl) (fun w hSw => by (try dsimp only at hSw); go_simp; try rfl) hHeld ?_
  go_frame
  refine takeH (i := 5) (some 66) rfl rfl (by kernel_rfl) (by kernel_rfl) (by kernel_rfl) (fun _ _ _ h => h) (by rfl) (fun w hSw => by (try dsimp only at hSw); go_simp; try rfl) hHeld ?_
  go_frame
  refine takeH (i := 7) (some 68) rfl rfl (by kernel_rfl) (by kernel_rfl) (by kernel_rfl) (fun _ _ _ h => h) (by rfl) (fun w hSw => by (try dsimp only at hSw); go_simp; try rfl) hHeld ?_
  go_frame
  refine wpAnyH_ready (rs := [6]) (by kernel_rfl) (by simp) (AllReadyH.cons rfl (fun K hK => ?_) AllReadyH.nil)
  go_simp
  refine (num_any N _).mono ?_
  rintro e Z ⟨rfl, rfl⟩
  show K _ _
  refine hK.out _ _ hHeld (fun hHeld => ?_)
  clear hK K
  refine takeH (i := 8) (some 69) rfl rfl (by kernel_rfl) (by kernel_rfl) (by kernel_rfl) (fun _ _ _ h => h) (by rfl) (fun w hSw => by (try dsimp only at hSw); go_simp; try rfl) hHeld ?_
  go_frame
  refine takeH (i := 9) (some 70) rfl rfl (by kernel_rfl) (by kernel_rfl) (by kernel_rfl) (fun _ _ _ h => h) (by rfl) (fun w hSw => by (try dsimp only at hSw); go_simp; try rfl) hHeld ?_
  go_frame
  refine takeH (i := 10) (some 71) rfl rfl (by kernel_rfl) (by kernel_rfl) (by kernel_rfl) (fun _ _ _ h => h) (by rfl) (fun w hSw => by (try dsimp only at hSw); go_simp; try rfl) hHeld ?_
  go_frame
  refine takeH (i := 11) (some 72) rfl rfl (by kernel_rfl) (by kernel_rfl) (by kernel_rfl) (fun _ _ _ h => h) (by rfl) (fun w hSw => by (try dsimp only at hSw); have hh := (D _ hSw).2.2.1; have y0 := hh.at (i := 0) rfl; have y1 := hh.at (i := 1) rfl; have y2 := hh.at (i := 2) rfl; have y3 := hh.at (i := 3) rfl; have y4 := hh.at (i := 4) rfl; have y5 := hh.at (i := 5) rfl; have y6 := hh.at (i := 6) rfl; go_simp; try rfl) hHeld ?_
  go_frame
  refine takeH (i := 12) (some 73) rfl rfl (by kernel_rfl) (by kernel_rfl) (by kernel_rfl) (fun _ _ _ h => h) (by rfl) (fun w hSw => by (try dsimp only at hSw); have hh := (D _ hSw).2.2.2.1; have y0 := hh.at (i := 0) rfl; have y1 := hh.at (i := 1) rfl; have y2 := hh.at (i := 2) rfl; have y3 := hh.at (i := 3) rfl; have y4 := hh.at (i := 4) rfl; have y5 := hh.at (i := 5) rfl; have y6 := hh.at (i := 6) rfl; go_simp; try rfl) hHeld ?_
  go_frame
  refine wpAnyH_ready (rs := [13]) (by kernel_rfl) (by simp) (AllReadyH.cons rfl (fun K hK => ?_) AllReadyH.nil)
  go_simp
  refine (same9_yes Y _ _ _ (O78.is.keep hHeld) (I8.keep hHeld) (by have := HQ.out; omega)).mono ?_
  rintro e Z13 ⟨rfl, bz13⟩
  show K _ _
  refine hK.out _ _ (ab_trans hHeld bz13) (fun hHeld => ?_)
  clear hK K
  refine takeH (i := 14) (some 75) rfl rfl (by kernel_rfl) (by kernel_rfl) (by kernel_rfl) (fun _ _ _ h => h) (by rfl) (fun w hSw => by (try dsimp only at hSw); go_simp; try rfl) hHeld ?_
  go_frame
  refine takeH (i := 15) (some 76) rfl rfl (by kernel_rfl) (by kernel_rfl) (by kernel_rfl) (fun _ _ _ h => h) (by rfl) (fun w hSw => by (try dsimp only at hSw); go_simp; try rfl) hHeld ?_
  go_frame
  refine takeH (i := 16) (some 77) rfl rfl (by kernel_rfl) (by kernel_rfl) (by kernel_rfl) (fun _ _ _ h => h) (by rfl) (fun w hSw => by (try dsimp only at hSw); go_simp; try rfl) hHeld ?_
  go_frame
  refine takeH (i := 17) (some 78) rfl rfl (by kernel_rfl) (by kernel_rfl) (by kernel_rfl) (fun _ _ _ h => h) (by rfl) (fun w hSw => by (try dsimp only at hSw); go_simp; try rfl) hHeld ?_
  go_frame
  refine takeH (i := 19) (some 80) rfl rfl (by kernel_rfl) (by kernel_rfl) (by kernel_rfl) (fun _ _ _ h => h) (by rfl) (fun w hSw => by (try dsimp only at hSw); go_simp; try rfl) hHeld ?_
  go_frame
  refine wpAnyH_ready (rs := [18]) (by kernel_rfl) (by simp) (AllReadyH.cons rfl (fun K hK => ?_) AllReadyH.nil)
  go_simp
  refine (num_any M _).mono ?_
  rintro e Z ⟨rfl, rfl⟩
  show K _ _
  refine hK.out _ _ hHeld (fun hHeld => ?_)
  clear hK K
  refine takeH (i := 20) (some 81) rfl rfl (by kernel_rfl) (by kernel_rfl) (by kernel_rfl) (fun _ _ _ h => h) (by rfl) (fun w hSw => by (try dsimp only at hSw); go_simp; try rfl) hHeld ?_
  go_frame
  refine takeH (i := 21) (some 82) rfl rfl (by kernel_rfl) (by kernel_rfl) (by kernel_rfl) (fun _ _ _ h => h) (by rfl) (fun w hSw => by (try dsimp only at hSw); go_simp; try rfl) hHeld ?_
  go_frame
  refine takeH (i := 22) (some 83) rfl rfl (by kernel_rfl) (by kernel_rfl) (by kernel_rfl) (fun _ _ _ h => h) (by rfl) (fun w hSw => by (try dsimp only at hSw); go_simp; try rfl) hHeld ?_
  go_frame
  refine takeH (i := 23) (some 84) rfl rfl (by kernel_rfl) (by kernel_rfl) (by kernel_rfl) (fun _ _ _ h => h) (by rfl) (fun w hSw => by (try dsimp only at hSw); have hh := (D _ hSw).2.2.2.2.1; have y0 := hh.at (i := 0) rfl; have y1 := hh.at (i := 1) rfl; have y2 := hh.at (i := 2) rfl; have y3 := hh.at (i := 3) rfl; have y4 := hh.at (i := 4) rfl; have y5 := hh.at (i := 5) rfl; have y6 := hh.at (i := 6) rfl; go_simp; try rfl) hHeld ?_
  go_frame
  refine takeH (i := 25) (some 86) rfl rfl (by kernel_rfl) (by kernel_rfl) (by kernel_rfl) (fun _ _ _ h => h) (by rfl) (fun w hSw => by (try dsimp only at hSw); have hh := (D _ hSw).2.2.2.2.2; have y0 := hh.at (i := 0) rfl; have y1 := hh.at (i := 1) rfl; have y2 := hh.at (i := 2) rfl; have y3 := hh.at (i := 3) rfl; have y4 := hh.at (i := 4) rfl; have y5 := hh.at (i := 5) rfl; have y6 := hh.at (i := 6) rfl; go_simp; try rfl) hHeld ?_
  go_frame
  refine wpAnyH_ready (rs := [24]) (by kernel_rfl) (by simp) (AllReadyH.cons rfl (fun K hK => ?_) AllReadyH.nil)
  go_simp
  refine (good9_any r.p r.a qc n cc _).mono ?_
  rintro e Z24 ⟨rfl, bz24⟩
  rw [HGd.out]
  show K _ _
  refine hK.out _ _ (ab_trans hHeld bz24) (fun hHeld => ?_)
  clear hK K
  refine wpAnyH_ready (rs := [26]) (by kernel_rfl) (by simp) (AllReadyH.cons rfl (fun K hK => ?_) AllReadyH.nil)
  go_simp
  refine (rgood_any r.p r.a q n c _).mono ?_
  rintro e Z26 ⟨rfl, bz26⟩
  rw [HGd.out]
  show K _ _
  refine hK.out _ _ (ab_trans hHeld bz26) (fun hHeld => ?_)
  clear hK K
  refine takeH (i := 27) (some 88) rfl rfl (by kernel_rfl) (by kernel_rfl) (by kernel_rfl) (fun _ _ _ h => h) (by rfl) (fun w hSw => by (try dsimp only at hSw); go_simp; try rfl) hHeld ?_
  go_frame
  refine takeH (i := 28) (some 89) rfl rfl (by kernel_rfl) (by kernel_rfl) (by kernel_rfl) (fun _ _ _ h => h) (by rfl) (fun w hSw => by (try dsimp only at hSw); go_simp; try rfl) hHeld ?_
  go_frame
  refine wpAnyH_done (by kernel_rfl) ?_ _
  go_upto_region 12 with fail
  have OZ1 := O678.keep hHeld
  have OZ2 := O78.keep hHeld
  have hPZ := (D _ hHeld).1
  have hAZ := (D _ hHeld).2.2.1
  have HZ : Hid (Below V.heap.size V Z26) := ab_trans hbv8 hHeld
  have HS : Hid (Sep (.slice q5 n5 c5) (.slice q7 n7 c7)) := sep_lt (fun k hk => (O6.lt k hk).2) (fun k hk => (O78.lt k hk).1)
  have HV : Hid (V.heap.size ≤ V6.heap.size) := hbv6.size
  have hm5 : n5 ≤ 32 := by have := HP.out; omega
  have hm7 : n7 ≤ 32 := by have := HQ.out; omega
  clear hHeld hP8 hQ8 hA8 hD8 O678 I678 O78 I8 O6 D hbv5 hbv6 hbv7 hbv8 hb67 hb78 HP HQ HGd hn6 hn8
  generalize Z26 = Z at *
  have y6 : Z.cell? ⟨g9, 6, none⟩ = some (.slice q5 n5 c5) := hPZ.at rfl
  go_wp2_with fail
  clear y6
  go_loopw [93] (fun i wr => ∃ (j : Nat) (ys : List Int), j ≤ n5 ∧ i = .int .i64 (j : Int) ∧ wr.ownsRow V.heap.size 3 1 (.slice q5 n5 c5) n5 (ints ys) ∧ Only (.slice q5 n5 c5) Z wr) (fun i _ => n5 - (intOf i).toNat)
  case atStart => exact ⟨0, P.l, by omega, rfl, by have h9 := OZ1; unfold Io at h9; rw [hn5] at h9; exact h9, Only.refl _ _⟩
  case round =>
    obtain ⟨j, ys, hj, rfl, h, hk1⟩ := hrel
    have hP1 := hk1.blk hPZ (blk_own OZ1 hPZ (by decide))
    by_cases cj : j = n5
    · subst cj
      have hA1 := hk1.blk hAZ (blk_own OZ1 hAZ (by decide))
      have O1 := hk1.io OZ2 HS.out
      have b1 := hk1.below (fun g hg => (OZ1.lt g hg).1)
      have HZ1 : Hid (Below V.heap.size V wr) := HZ.out.trans b1
      clear h hk1 hP1 OZ1 OZ2 hPZ hAZ HZ b1
      generalize wr = Z1 at *
      have y6 : Z1.cell? ⟨g13, 6, none⟩ = some (.slice q7 n7 c7) := hA1.at rfl
      go_wp2_with fail
      clear y6
      go_loopw [104] (fun i wr => ∃ (j : Nat) (ys : List Int), j ≤ n7 ∧ i = .int .i64 (j : Int) ∧ wr.ownsRow V6.heap.size 3 1 (.slice q7 n7 c7) n7 (ints ys) ∧ Only (.slice q7 n7 c7) Z1 wr) (fun i _ => n7 - (intOf i).toNat)
      case atStart => exact ⟨0, Y.l, by omega, rfl, by have h9 := O1; unfold Io at h9; rw [hn7] at h9; exact h9, Only.refl _ _⟩
      case round =>
        obtain ⟨j, ys, hj, rfl, h, hk1⟩ := hrel
        by_cases cj : j = n7
        · subst cj
          have b2 := hk1.below (n := V.heap.size) (fun g hg => Nat.le_trans HV.out (O1.lt g hg).1)
          have HZ2 := HZ1.out.trans b2
          have hX2 := hX.keep HZ2
          have hR2 := hRV.keep HZ2
          have hC2 := hCV.keep HZ2
          have hv2 := hv.keep (ab_trans hwV HZ2)
          have hu2 := hu.keep (ab_trans hwV HZ2)
          have hO2 := OV.is.keep HZ2
          have hw2 := ab_trans hwV HZ2
          clear h hk1 hA1 O1 b2 HZ2 HZ1 hX hRV hCV OV hv hu hwV
          obtain ⟨x0, x1, x2, x3, x4, x5, x6⟩ := cells7 hX2
          obtain ⟨y0, y1, y2, y3, y4, y5, y6⟩ := cells7 hR2
          have hbv := Below.refl wr.heap.size wr
          go_wp2_with fail
          refine (kept9_any r _ _ _ _ hC2 hv2 (by omega)).mono ?_
          rintro e W9 ⟨rfl, b9⟩
          have hbv := ab_trans hbv b9
          go_wp2_with fail
          refine (ints_is _ _ m m _ (hO2.keep hbv) (hu2.keep hbv) (by omega) (by omega)).mono ?_
          rintro e W10 ⟨rfl, b10⟩
          rw [decide_eq_true (rfl : m = m)]
          have hbv := ab_trans hbv b10
          go_wp2_with fail
          go_ret
          exact ⟨rfl, ab_trans hw2 hbv⟩
        · have hA2 := hk1.blk hA1 (blk_own O1 hA1 (by decide))
          clear hA1 O1 HZ1 hX hRV hCV OV hv hu hwV HS
          have hjn : j < n7 := by omega
          have hji : (j : Int) < (n7 : Int) := by omega
          obtain ⟨gg, cap, ee, hbb, hgg, hcc, hmm, -⟩ := own_cells h (fun e => by cases e; omega)
          cases ee
          have hys : ys.length = n7 := by have h9 := h.1; rw [ints_len, Nat.mul_one] at h9; exact h9
          have d := h.cellAt j (by omega)
          have fz := h.frozenAt j
          obtain ⟨z, hzz⟩ : ∃ z, ys[j]? = some z := ⟨ys[j], List.getElem?_eq_getElem (by omega)⟩
          have hu9 : (ints ys)[j]? = some (.int .i64 z) := by rw [ints_at, hzz]; rfl
          rw [hu9] at d
          have y6 := hA2.at (i := 6) rfl
          go_wp2_with fail
          have hst := (h.stored j (.int .i64 (-1))).1
          rw [show (ints ys).set j (.int .i64 (-1)) = ints (ys.set j (-1)) from by simp [ints, List.map_set]] at hst
          exact ⟨⟨j + 1, _, by omega, rfl, hst, hk1.set rfl _ _⟩, by simp only [intOf]; omega⟩
    · clear HS OZ1 OZ2 hPZ hAZ HZ hX hRV hCV OV hv hu hwV
      have hjn : j < n5 := by omega
      have hji : (j : Int) < (n5 : Int) := by omega
      obtain ⟨gg, cap, ee, hbb, hgg, hcc, hmm, -⟩ := own_cells h (fun e => by cases e; omega)
      cases ee
      have hys : ys.length = n5 := by have h9 := h.1; rw [ints_len, Nat.mul_one] at h9; exact h9
      have d := h.cellAt j (by omega)
      have fz := h.frozenAt j
      obtain ⟨z, hzz⟩ : ∃ z, ys[j]? = some z := ⟨ys[j], List.getElem?_eq_getElem (by omega)⟩
      have hu9 : (ints ys)[j]? = some (.int .i64 z) := by rw [ints_at, hzz]; rfl
      rw [hu9] at d
      have y6 := hP1.at (i := 6) rfl
      go_wp2_with fail
      have hst := (h.stored j (.int .i64 (-1))).1
      rw [show (ints ys).set j (.int .i64 (-1)) = ints (ys.set j (-1)) from by simp [ints, List.map_set]] at hst
      exact ⟨⟨j + 1, _, by omega, rfl, hst, hk1.set rfl _ _⟩, by simp only [intOf]; omega⟩
theorem walk {W : World} (a0 : Int) (_ : -9223372036854775808 ≤ a0 ∧ a0 ≤ 9223372036854775807) (a1 : Int) (_ : -9223372036854775808 ≤ a1 ∧ a1 ≤ 9223372036854775807) (a2 : Int) (_ : -9223372036854775808 ≤ a2 ∧ a2 ≤ 9223372036854775807)
    (b0 : Int) (_ : -9223372036854775808 ≤ b0 ∧ b0 ≤ 9223372036854775807) (b1 : Int) (_ : -9223372036854775808 ≤ b1 ∧ b1 ≤ 9223372036854775807) (b2 : Int) (_ : -9223372036854775808 ≤ b2 ∧ b2 ≤ 9223372036854775807)
    (v : Value) (l : List Int) (hv : Is W v l) (_ : In64 l)
    (d0 : Int) (_ : -9223372036854775808 ≤ d0 ∧ d0 ≤ 9223372036854775807) (d1 : Int) (_ : -9223372036854775808 ≤ d1 ∧ d1 ≤ 9223372036854775807) (d2 : Int) (_ : -9223372036854775808 ≤ d2 ∧ d2 ≤ 9223372036854775807)
    (u : Value) (m : List Int) (hu : Is W u m) (_ : In64 m) :
    Calls Try.prog 4 #[.agg #[.int .i64 a0, .int .i64 a1, .int .i64 a2, .int .i64 b0, .int .i64 b1, .int .i64 b2, v], .agg #[.int .i64 d0, .int .i64 d1, .int .i64 d2], u] W fun e w' => e = .returned (.bool true) ∧ Below W.heap.size W w' :=
  asks_walk ⟨⟨a0, a1, a2⟩, ⟨b0, b1, b2⟩, l⟩ ⟨d0, d1, d2⟩ v u m W hv hu
theorem own : ownKnob Try.prog.godebug = none := by kernel_rfl
theorem laidOut : laidOutB Try.prog = true := by kernel_rfl

set_option maxRecDepth 100000 in
theorem lifted (os : Os) (started : os.Started) (H : Type) (enc : TypeId × Value → H) :
    ReturnsInHanded {} Try.checked os 4 .any (Rows.ballotAsksSpec.pre6 enc Try.prog Try.f4 Rows.ballotAsksRow.domain false) (Rows.ballotAsksSpec.post enc Try.prog Try.f4 false true false false) := by
  refine returnsInHanded_of_change (C := Try.checked) own started (by kernel_rfl) Try.func4
    (ChangeSpec.witness6 (enc := enc) (C := Try.checked) false ⟨#[], #[.agg #[.int .i64 0, .int .i64 0, .int .i64 0, .int .i64 0, .int .i64 0, .int .i64 0, .slice none 0 0], .agg #[.int .i64 0, .int .i64 0, .int .i64 0], .slice none 0 0], []⟩ 8 (by kernel_rfl) (by kernel_rfl) (by kernel_rfl) (by kernel_rfl)) ?_
  intro W base args ds gs before hval0 hW hcnd _
  have hval : ∀ (j : Nat) t v, Try.f4.params[j]? = some t → args[j]? = some v → Value.okWide Try.prog W .any base t v := hval0
  have hW' := hW
  obtain ⟨p, q, hA0, hV, rfl, hfz, hnd⟩ := hW
  have hA : DataW.TrodAll enc Try.prog W 0 (fun _ => true) true Try.f4.params.toList args.toList ds p := hA0
  rw [Try.params4] at hA hval
  obtain ⟨v0, vs0, d0, ds0, p0, q0, hargs, rfl, rfl, h0, r0⟩ := trodAll_cons hA
  obtain ⟨v1, vs1, d1, ds1, p1, q1, rfl, rfl, rfl, h1, r1⟩ := trodAll_cons r0
  obtain ⟨v2, vs2, d2, ds2, p2, q2, rfl, rfl, rfl, h2, r2⟩ := trodAll_cons r1
  obtain ⟨rfl, rfl, rfl⟩ := trodAll_nil r2
  obtain rfl : args = #[v0, v1, v2] := by cases args; simp_all
  obtain ⟨rfl, rfl⟩ := trodVars_none hV
  have k0 := h0
  have lt0 : ∀ x ∈ p0, x.block < W.heap.size := by obtain ⟨m, hm⟩ := k0; exact DataW.trod_lt m _ _ _ hm
  have k1 := h1
  have lt1 : ∀ x ∈ p1, x.block < W.heap.size := by obtain ⟨m, hm⟩ := k1; exact DataW.trod_lt m _ _ _ hm
  have k2 := h2
  have lt2 : ∀ x ∈ p2, x.block < W.heap.size := by obtain ⟨m, hm⟩ := k2; exact DataW.trod_lt m _ _ _ hm
  obtain ⟨cs0, rfl, hz0, fm0, hx0⟩ := open_struct (n := 7) Try.underlying31 (by kernel_rfl) (hval 0 31 v0 rfl rfl) h0
  obtain ⟨e0_0, e0_1, e0_2, e0_3, e0_4, e0_5, e0_6, rfl⟩ : ∃ e0_0 e0_1 e0_2 e0_3 e0_4 e0_5 e0_6, cs0 = #[e0_0, e0_1, e0_2, e0_3, e0_4, e0_5, e0_6] := by
    refine ⟨cs0[0], cs0[1], cs0[2], cs0[3], cs0[4], cs0[5], cs0[6], ?_⟩
    apply Array.ext
    · simpa using hz0
    · intro i h1 h2
      have : i = 0 ∨ i = 1 ∨ i = 2 ∨ i = 3 ∨ i = 4 ∨ i = 5 ∨ i = 6 := by omega
      rcases this with rfl | rfl | rfl | rfl | rfl | rfl | rfl <;> rfl
  obtain ⟨fy0_0, fg0_0⟩ := hx0 0 _ rfl
  obtain ⟨a0_0, ea0_0, w0_0⟩ := flat_cell 8 _ 23 _ _ 0 .i64 fg0_0 (by kernel_rfl)
  obtain rfl : e0_0 = .int .i64 a0_0 := by have h9 : ([e0_0, e0_1, e0_2] : List Value)[0]? = some (Value.int .i64 a0_0) := ea0_0; simpa using h9
  obtain ⟨a0_1, ea0_1, w0_1⟩ := flat_cell 8 _ 23 _ _ 1 .i64 fg0_0 (by kernel_rfl)
  obtain rfl : e0_1 = .int .i64 a0_1 := by have h9 : ([.int .i64 a0_0, e0_1, e0_2] : List Value)[1]? = some (Value.int .i64 a0_1) := ea0_1; simpa using h9
  obtain ⟨a0_2, ea0_2, w0_2⟩ := flat_cell 8 _ 23 _ _ 2 .i64 fg0_0 (by kernel_rfl)
  obtain rfl : e0_2 = .int .i64 a0_2 := by have h9 : ([.int .i64 a0_0, .int .i64 a0_1, e0_2] : List Value)[2]? = some (Value.int .i64 a0_2) := ea0_2; simpa using h9
  obtain ⟨fy0_1, fg0_1⟩ := hx0 1 _ rfl
  obtain ⟨a0_3, ea0_3, w0_3⟩ := flat_cell 8 _ 23 _ _ 0 .i64 fg0_1 (by kernel_rfl)
  obtain rfl : e0_3 = .int .i64 a0_3 := by have h9 : ([e0_3, e0_4, e0_5] : List Value)[0]? = some (Value.int .i64 a0_3) := ea0_3; simpa using h9
  obtain ⟨a0_4, ea0_4, w0_4⟩ := flat_cell 8 _ 23 _ _ 1 .i64 fg0_1 (by kernel_rfl)
  obtain rfl : e0_4 = .int .i64 a0_4 := by have h9 : ([.int .i64 a0_3, e0_4, e0_5] : List Value)[1]? = some (Value.int .i64 a0_4) := ea0_4; simpa using h9
  obtain ⟨a0_5, ea0_5, w0_5⟩ := flat_cell 8 _ 23 _ _ 2 .i64 fg0_1 (by kernel_rfl)
  obtain rfl : e0_5 = .int .i64 a0_5 := by have h9 : ([.int .i64 a0_3, .int .i64 a0_4, e0_5] : List Value)[2]? = some (Value.int .i64 a0_5) := ea0_5; simpa using h9
  obtain ⟨fy0_2, fg0_2⟩ := hx0 2 _ rfl
  obtain ⟨sq0_6, sg0_6, so0_6, sn0_6, sk0_6, sl0_6, ee0_6, hl0_6, hk0_6, hm0_6, hp0_6, hg0_6, hc0_6⟩ := rows_of (n := 1) (D := 8) (fun _ => .i64) Try.underlying29 (by kernel_rfl) (by omega) (kinds_of (by kernel_rfl)) fg0_2
  obtain rfl : e0_6 = .slice sq0_6 sn0_6 sk0_6 := by have h9 : [e0_6] = [Value.slice sq0_6 sn0_6 sk0_6] := ee0_6; simpa using h9
  obtain ⟨S0_6_, B0_6_⟩ := is_rows hl0_6 hk0_6 hm0_6 hp0_6 hg0_6 hc0_6
  obtain ⟨c1_0, c1_1, c1_2, y1_0, y1_1, y1_2, m1, rfl, rfl, rfl, hy1_0, hy1_1, hy1_2⟩ := open_agg3 Try.underlying23 (by kernel_rfl) (by kernel_rfl) (hval 1 23 v1 rfl rfl) h1
  obtain ⟨a1_0, e1_0, rfl, w1_0⟩ := DataW.trod_int Try.underlying3 hy1_0
  simp at e1_0; subst e1_0
  obtain ⟨a1_1, e1_1, rfl, w1_1⟩ := DataW.trod_int Try.underlying3 hy1_1
  simp at e1_1; subst e1_1
  obtain ⟨a1_2, e1_2, rfl, w1_2⟩ := DataW.trod_int Try.underlying3 hy1_2
  simp at e1_2; subst e1_2
  obtain ⟨l2_, S2_, B2_⟩ := open_nums (hval 2 29 v2 rfl rfl) h2
  clear hA0 hval0
  refine (walk a0_0 (bounds_i64 w0_0) a0_1 (bounds_i64 w0_1) a0_2 (bounds_i64 w0_2) a0_3 (bounds_i64 w0_3) a0_4 (bounds_i64 w0_4) a0_5 (bounds_i64 w0_5) (.slice sq0_6 sn0_6 sk0_6) _ S0_6_ B0_6_ a1_0 (bounds_i64 w1_0) a1_1 (bounds_i64 w1_1) a1_2 (bounds_i64 w1_2) v2 l2_ S2_ B2_).mono fun e W' ⟨he, bel⟩ => ?_
  subst he
  exact ⟨_, rfl, _, _, _, [], _, [], hW', trodAll_mk1 (shut_bool Try.underlying4 _), (trodAll_cons_mk (Below.trod laidOut (by kernel_rfl) (of_decide_eq_true (by kernel_rfl)) k0 bel lt0) (trodAll_cons_mk (Below.trod laidOut (by kernel_rfl) (of_decide_eq_true (by kernel_rfl)) k1 bel lt1) (trodAll_cons_mk (Below.trod laidOut (by kernel_rfl) (of_decide_eq_true (by kernel_rfl)) k2 bel lt2) trodAll_mk0))), rfl, bel.frame _, fun h => by cases h⟩

theorem over : Rows.ballotAsksRow.holds Try.pinned (OpenSpec.ofChange Rows.ballotAsksSpec) :=
  OpenClaim.holds_of_wide 4 Try.f4 rfl rfl rfl rfl rfl rfl rfl ⟨rfl, rfl, rfl, rfl, rfl⟩ rfl rfl rfl rfl rfl (by kernel_rfl) Try.func4 (by kernel_rfl)
    (of_decide_eq_true (by kernel_rfl)) (by unfold Func.isWrapper; first | (rw [if_pos (by decide +kernel)]; kernel_rfl) | (rw [if_neg (by decide +kernel)]; exact ⟨rfl, rfl⟩))
    (fun os started H enc _ => lifted os started H enc)

theorem proved : Rows.BallotAsksSaid := over
end Go.Proofs.Ythpiajnnfchcjaa.ballotAsks
namespace Go.Proofs.Ythpiajnnfchcjaa
theorem ballotAsks_holds : Rows.BallotAsksSaid := ballotAsks.proved
#print axioms ballotAsks_holds
end Go.Proofs.Ythpiajnnfchcjaa
