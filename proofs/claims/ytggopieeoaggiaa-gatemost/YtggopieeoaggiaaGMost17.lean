/-
  A batch has as many entries as it may, unless these are all that is closed, and with a greater bound begins with the same ones: estuarylaw17.GateMost returns true for every input; no condition.
-/
import Derived.Test.YtggopieeoaggiaaPk52
import Derived.Test.YtggopieeoaggiaaPk45
import Derived.Test.YtggopieeoaggiaaPk48
import Derived.Test.YtggopieeoaggiaaPk09
import Derived.ProofKit
import Derived.OpenShut
import Derived.ChangeOld
import Derived.Below
namespace Go.Proofs.Ytggopieeoaggiaa.gateMost
open Go.ChangeShapes Go.WideShapes Go.ChangeAt Go.RowKit Go.Joins
set_option linter.unusedVariables false
set_option maxRecDepth 100000

theorem no17 (v : Value) (ops : List Op5) (r mark b0 b1 less more : Int) (w : World) (hv : ER E5 w v ops) (hn : r < 1 ∨ 150 < ops.length) :
    Calls Try.prog 4 #[.agg #[v, .int .i64 r, .int .i64 mark, .int .i64 b0, .int .i64 b1], .int .i64 less, .int .i64 more] w fun e w' => e = .returned (.bool true) ∧ Below w.heap.size w w' := by
  have HBs := fun (V : World) (hb : Below w.heap.size w V) => basins_no v ops r mark (b0, b1) V (hv.keep hb) hn
  obtain ⟨q, cap, ev⟩ := hv.form
  subst ev
  clear hv
  generalize ops.length = n at *
  obtain ⟨A, hE, hX, hw⟩ := blk1 w #[.slice q n cap, .int .i64 r, .int .i64 mark, .int .i64 b0, .int .i64 b1] 26
  have HX : Hid (∀ V, Below A.heap.size A V → V.cell? ⟨w.heap.size, 0, none⟩ = some (.slice q n cap) ∧ V.cell? ⟨w.heap.size, 1, none⟩ = some (.int .i64 r) ∧ V.cell? ⟨w.heap.size, 2, none⟩ = some (.int .i64 mark) ∧ V.cell? ⟨w.heap.size, 3, none⟩ = some (.int .i64 b0) ∧ V.cell? ⟨w.heap.size, 4, none⟩ = some (.int .i64 b1) ∧ Below w.heap.size w V) := fun V hb => ⟨(hX.keep hb).at rfl, (hX.keep hb).at rfl, (hX.keep hb).at rfl, (hX.keep hb).at rfl, (hX.keep hb).at rfl, ab_trans hw hb⟩
  clear hX hw
  go_enter Try.func4, Try.ntmps4
  go_upto_region 3 with (go_at_call 5; refine (alive17_any _).mono ?_; rintro e W1 ⟨rfl, hb1⟩)
  obtain ⟨x0, x1, x2, x3, x4, hw1⟩ := HX.out W1 hb1
  clear hE
  go_upto_region 4 with (go_at_call 6; refine (HBs _ hw1).mono ?_; rintro e W2 ⟨rfl, b2⟩)
  obtain ⟨y0, y1, y2, y3, y4, hw2⟩ := HX.out W2 (ab_trans hb1 b2)
  clear x0 x1 x2 x3 x4 HBs hb1 b2
  by_cases c1 : r < 1
  · go_wp2_with fail
    go_ret
    exact ⟨rfl, hw2⟩
  · have c2 : (150 : Int) < (n : Int) := by omega
    go_wp2_with fail
    go_ret
    exact ⟨rfl, hw2⟩
set_option maxHeartbeats 4000000 in
theorem yes17 (v : Value) (ops : List Op5) (r mark b0 b1 less more : Int) (w : World) (hv : ER E5 w v ops) (hf : ∀ o ∈ ops, Fit5 o) (hr : 1 ≤ r ∧ r ≤ 9223372036854775807) (hm : J64 mark) (hb : J64 b0 ∧ J64 b1) (hn : ops.length ≤ 150) :
    Calls Try.prog 4 #[.agg #[v, .int .i64 r, .int .i64 mark, .int .i64 b0, .int .i64 b1], .int .i64 less, .int .i64 more] w fun e w' => e = .returned (.bool true) ∧ Below w.heap.size w w' := by
  have HBs := fun (V : World) (hV : Below w.heap.size w V) => basins_yes v ops r mark (b0, b1) V (hv.keep hV) hf hr hm hb hn
  have Hba := fun h => bs17_ba (r := r) (mark := mark) (base := (b0, b1)) (ops := ops) h
  generalize bs17 r mark (b0, b1) ops = S at *
  obtain ⟨q, cap, ev⟩ := hv.form
  subst ev
  clear hv hf hr hm hb hn
  generalize ops.length = n at *
  obtain ⟨A, hE, hX, hw⟩ := blk1 w #[.slice q n cap, .int .i64 r, .int .i64 mark, .int .i64 b0, .int .i64 b1] 26
  have HX : Hid (∀ V, Below A.heap.size A V → V.cell? ⟨w.heap.size, 0, none⟩ = some (.slice q n cap) ∧ V.cell? ⟨w.heap.size, 1, none⟩ = some (.int .i64 r) ∧ V.cell? ⟨w.heap.size, 2, none⟩ = some (.int .i64 mark) ∧ V.cell? ⟨w.heap.size, 3, none⟩ = some (.int .i64 b0) ∧ V.cell? ⟨w.heap.size, 4, none⟩ = some (.int .i64 b1) ∧ Below w.heap.size w V) := fun V hb => ⟨(hX.keep hb).at rfl, (hX.keep hb).at rfl, (hX.keep hb).at rfl, (hX.keep hb).at rfl, (hX.keep hb).at rfl, ab_trans hw hb⟩
  clear hX hw
  go_enter Try.func4, Try.ntmps4
  go_upto_region 3 with (go_at_call 5; refine (alive17_any _).mono ?_; rintro e W1 ⟨rfl, hb1⟩)
  obtain ⟨x0, x1, x2, x3, x4, hw1⟩ := HX.out W1 hb1
  clear hE
  go_upto_region 4 with (go_at_call 6; refine (HBs _ hw1).mono ?_; rintro e W2 ⟨⟨K, K', R, rfl, hB2, hR2, hS2⟩, b2⟩)
  have hw2 := ab_trans hw1 b2
  have hba := Hba hB2.ok
  clear x0 x1 x2 x3 x4 HBs hb1 b2 hR2 hS2 HX Hba hw1
  go_upto_region 7 with fail
  obtain ⟨k1, h1, e1⟩ := mod_nat17 less 16 (by omega) (by omega)
  have e4 : wrap64 (1 + (k1 : Int)) = ((k1 + 1 : Nat) : Int) := by unfold wrap64; omega
  rw [e1, e4]
  obtain ⟨t, ht⟩ : ∃ t, k1 + 1 = t := ⟨_, rfl⟩
  rw [ht]
  have t1 : 1 ≤ t := by omega
  have t16 : t ≤ 16 := by omega
  clear e1 e4 h1 ht
  have h17 : ¬ (17 : Int) - (t : Int) = 0 := by omega
  have e5 : IntKind.u64.wrap (17 - (t : Int)) = 17 - (t : Int) := by rw [IntKind.wrap_u64]; omega
  go_upto_region 8 with fail
  obtain ⟨k2, h2, e2⟩ := mod_nat17 more (17 - (t : Int)) (by omega) (by omega)
  have e6 : wrap64 ((t : Int) + (k2 : Int)) = ((t + k2 : Nat) : Int) := by unfold wrap64; omega
  rw [e2, e6]
  obtain ⟨m, hm⟩ : ∃ m, t + k2 = m := ⟨_, rfl⟩
  rw [hm]
  have m16 : m ≤ 16 := by omega
  have tm : t ≤ m := by omega
  clear e2 e6 e5 h17 h2 hm
  have hBs : w.heap.size ≤ W2.heap.size := hw2.size
  go_wp2_with fail
  go_loopw [50] (fun z wr => ∃ k : Nat, k ≤ 2 ∧ z = .int .i64 (k : Int) ∧ Bq wr W1.heap.size K S ∧ Below w.heap.size w wr) (fun z _ => 2 - (intOf z).toNat)
  case atStart => exact ⟨0, by omega, rfl, hB2, hw2⟩
  case round =>
    clear hB2 hw2
    obtain ⟨k, hk, rfl, hB, hw⟩ := hrel
    by_cases ck : k = 2
    · subst ck
      go_wp2_with fail
      go_ret
      exact ⟨rfl, hw⟩
    · have hki : (k : Int) < 2 := by omega
      obtain ⟨he, hP⟩ := gm_ok hB.ok k t1 tm m16
      have HN1 := fun (V : World) (hV : Below wr.heap.size wr V) => gnext_any 5 k t V (hB.keep hV)
      have HN2 := fun (V : World) (hV : Below wr.heap.size wr V) => gnext_any 5 k m V (hB.keep hV)
      have HCl := fun (V : World) (hV : Below wr.heap.size wr V) => baclosed_at k V (hB.keep hV) (by omega)
      have HB : Hid (∀ V, Below wr.heap.size wr V → Bq V W1.heap.size K S ∧ Below w.heap.size w V) := fun V hV => ⟨hB.keep hV, ab_trans hw hV⟩
      rw [he] at HN2
      clear he hB hw
      generalize gnI S 5 (k : Int) (t : Int) = bI at *
      generalize gnX S 5 k t = X at *
      generalize gnX S 5 k m = Y at *
      generalize lmB S.fl = lb at *
      obtain ⟨p1, p2, p3, p4, p5, p6, p7⟩ := hP
      obtain ⟨epx, lnx, ⟨f0, f1⟩, ⟨t0, t1'⟩, L⟩ := X
      obtain ⟨epy, lny, fy, ⟨u0, u1⟩, M⟩ := Y
      try dsimp only at p1 p2 p3 p4 p5 p6 p7
      subst p2
      subst p5
      have HTk : Hid (M.take L.length = L) := p4
      have HCe : Hid (bI = true → L.length < t → ((t0, t1') : Int × Int) = clsP S k) := p6
      have HLs : ∀ W, Calls Try.prog 12 #[Plc u0 u1, Plc t0 t1'] W fun e w' => e = .returned (.bool false) ∧ Below W.heap.size W w' := fun W => by have := rpless_any u0 u1 t0 t1' W; rw [p3] at this; exact this
      clear p3 p4 p6
      generalize hcle : clsP S k = cl at *
      clear hcle
      obtain ⟨c0, c1⟩ := cl
      have hLn : L.length = L.length := rfl
      generalize hnL : L.length = nL at *
      generalize hnM : M.length = nM at *
      clear hLn
      have hnn : ¬ (nM : Int) < (nL : Int) := by omega
      have hbb : (bI != bI) = false := by simp
      have hef : (f0 == f0) = true := by simp
      have heg : (f1 == f1) = true := by simp
      have hep : (epy != epy) = false := by simp
      go_upto_region 12 with (first
        | (go_at_call 10; refine (HN1 _ (Below.refl _ _)).mono ?_; rintro e W4 ⟨⟨v4, e4', hO4⟩, b4⟩; obtain ⟨q4, c4, e4⟩ := hO4.form; dsimp only at e4; rw [hnL] at e4; subst e4; subst e4')
        | (refine al_blk rfl rfl (btA zBt (.slice none 0 0)) (zero_bt _) ?_; intro W5 e5 hX5 b5; clear e5)
        | (refine st_blk rfl rfl hX5 rfl (vs := #[.int .i64 epy, .int .i64 lnx, .int .i64 f0, .int .i64 f1, .int .i64 t0, .int .i64 t1', .slice q4 nL c4]) rfl (info_bt zBt q4 nL c4) rfl (bt_one ⟨epy, lnx, (f0, f1), (t0, t1'), []⟩ q4 nL c4) ?_; intro W6 hX6 C6))
      have b46 := ab_chg b5 C6 (Nat.le_refl _)
      have b6 := ab_trans b4 b46
      have hO6 := hO4.keep b46
      try dsimp only at hO6
      clear hX5 C6 b5 b46 hO4 b4 HN1
      go_upto_region 13 with (first
        | (go_at_call 10; refine (HN2 _ b6).mono ?_; rintro e W7 ⟨⟨v7, e7', hO7⟩, b7⟩; obtain ⟨q7, c7, e7⟩ := hO7.form; dsimp only at e7; rw [hnM] at e7; subst e7; subst e7')
        | (refine al_blk rfl rfl (btA zBt (.slice none 0 0)) (zero_bt _) ?_; intro W8 e8 hX8 b8; clear e8)
        | (refine st_blk rfl rfl hX8 rfl (vs := #[.int .i64 epy, .int .i64 lny, .int .i64 f0, .int .i64 f1, .int .i64 u0, .int .i64 u1, .slice q7 nM c7]) rfl (info_bt zBt q7 nM c7) rfl (bt_one ⟨epy, lny, (f0, f1), (u0, u1), []⟩ q7 nM c7) ?_; intro W9 hX9 C9))
      have b79 := ab_chg b8 C9 (Nat.le_refl _)
      have hO9 := hO7.keep b79
      have hOx := hO6.keep (ab_trans b7 b79)
      have hXx := hX6.keep (ab_trans b7 b79)
      have b9 := ab_trans b6 (ab_trans b7 b79)
      try dsimp only at hO9 hOx
      have hq7 := eo_q hO9
      have hc7 : nM ≤ c7 := by
        obtain ⟨q', c', g', o', e', h1, -⟩ := hO9.er
        injection e' with _ _ e3
        omega
      have HE : Hid (∀ V, Below W9.heap.size W9 V → ER EE V (.slice q4 nL c4) L ∧ ER EE V (.slice q7 nL c7) L ∧ Blk V W4.heap.size #[.int .i64 epy, .int .i64 lnx, .int .i64 f0, .int .i64 f1, .int .i64 t0, .int .i64 t1', .slice q4 nL c4] 48 ∧ Blk V W7.heap.size #[.int .i64 epy, .int .i64 lny, .int .i64 f0, .int .i64 f1, .int .i64 u0, .int .i64 u1, .slice q7 nM c7] 48 ∧ Below wr.heap.size wr V) := fun V hV => ⟨(hOx.keep hV).er, by
        have h1 := er_take17 (m := nL) (c := c7) (hO9.keep hV).er (by rw [hnM]; omega) (by omega) (by obtain ⟨q', c', g', o', e', h1, h2, -⟩ := hO9.er; injection e' with _ _ e3; omega)
        rw [HTk.out] at h1
        exact h1, hXx.keep hV, hX9.keep hV, ab_trans b9 hV⟩
      clear hX8 C9 b8 b79 hO7 b7 HN2 hO9 hOx hXx hX9 b9 hX6 hO6 b6
      generalize W4.heap.size = bp at *
      generalize W7.heap.size = bq at *
      obtain ⟨-, -, hXp, hXq, -⟩ := HE.out W9 (Below.refl _ _)
      have x2 : W9.cell? ⟨bp, 2, none⟩ = some (.int .i64 f0) := hXp.at rfl
      have x3 : W9.cell? ⟨bp, 3, none⟩ = some (.int .i64 f1) := hXp.at rfl
      have x4 : W9.cell? ⟨bp, 4, none⟩ = some (.int .i64 t0) := hXp.at rfl
      have x5 : W9.cell? ⟨bp, 5, none⟩ = some (.int .i64 t1') := hXp.at rfl
      have x6 : W9.cell? ⟨bp, 6, none⟩ = some (.slice q4 nL c4) := hXp.at rfl
      have y2 : W9.cell? ⟨bq, 2, none⟩ = some (.int .i64 f0) := hXq.at rfl
      have y3 : W9.cell? ⟨bq, 3, none⟩ = some (.int .i64 f1) := hXq.at rfl
      have y4 : W9.cell? ⟨bq, 4, none⟩ = some (.int .i64 u0) := hXq.at rfl
      have y5 : W9.cell? ⟨bq, 5, none⟩ = some (.int .i64 u1) := hXq.at rfl
      have y6 : W9.cell? ⟨bq, 6, none⟩ = some (.slice q7 nM c7) := hXq.at rfl
      clear hXp hXq
      go_upto_region 15 with (go_at_call 12; refine (HLs _).mono ?_; rintro e W10 ⟨rfl, b10⟩)
      have HEv : Hid (∀ V, Below W10.heap.size W10 V → ER EE V (.slice q4 nL c4) L ∧ ER EE V (.slice q7 nL c7) L ∧ Blk V bp #[.int .i64 epy, .int .i64 lnx, .int .i64 f0, .int .i64 f1, .int .i64 t0, .int .i64 t1', .slice q4 nL c4] 48 ∧ Blk V bq #[.int .i64 epy, .int .i64 lny, .int .i64 f0, .int .i64 f1, .int .i64 u0, .int .i64 u1, .slice q7 nM c7] 48 ∧ Below wr.heap.size wr V) := fun V hV => HE.out V (ab_trans b10 hV)
      clear x2 x3 x4 x5 x6 y2 y3 y4 y5 y6 HE b10
      refine wp_region_held_drew (S := fun w' => Below W10.heap.size W10 w') (by kernel_rfl) (ab_drew (Below.refl _ _)) (fun hHeld => ?_)
      refine takeH (i := 0) (some 93) rfl rfl (by kernel_rfl) (by kernel_rfl) (by kernel_rfl) (fun _ _ _ h => h) (by rfl) (fun w hSw => by (try dsimp only at hSw); go_simp; try rfl) hHeld ?_
      go_frame
      refine takeH (i := 1) (some 94) rfl rfl (by kernel_rfl) (by kernel_rfl) (by kernel_rfl) (fun _ _ _ h => h) (by rfl) (fun w hSw => by (try dsimp only at hSw); (have q6 := (HEv.out _ hSw).2.2.1.at (i := 6) rfl; go_simp; try rfl)) hHeld ?_
      go_frame
      refine takeH (i := 2) (some 95) rfl rfl (by kernel_rfl) (by kernel_rfl) (by kernel_rfl) (fun _ _ _ h => h) (by rfl) (fun w hSw => by (try dsimp only at hSw); go_simp; try rfl) hHeld ?_
      go_frame
      refine takeH (i := 3) (some 96) rfl rfl (by kernel_rfl) (by kernel_rfl) (by kernel_rfl) (fun _ _ _ h => h) (by rfl) (fun w hSw => by (try dsimp only at hSw); (have q6 := (HEv.out _ hSw).2.2.2.1.at (i := 6) rfl; go_simp; try rfl)) hHeld ?_
      go_frame
      refine takeH (i := 4) (some 97) rfl rfl (by kernel_rfl) (by kernel_rfl) (by kernel_rfl) (fun _ _ _ h => h) (by rfl) (fun w hSw => by (try dsimp only at hSw); go_simp; try rfl) hHeld ?_
      go_frame
      refine takeH (i := 5) (some 98) rfl rfl (by kernel_rfl) (by kernel_rfl) (by kernel_rfl) (fun _ _ _ h => h) (by rfl) (fun w hSw => by (try dsimp only at hSw); (have q6 := (HEv.out _ hSw).2.2.1.at (i := 6) rfl; go_simp; try rfl)) hHeld ?_
      go_frame
      refine takeH (i := 6) (some 99) rfl rfl (by kernel_rfl) (by kernel_rfl) (by kernel_rfl) (fun _ _ _ h => h) (by rfl) (fun w hSw => by (try dsimp only at hSw); go_simp; try rfl) hHeld ?_
      go_frame
      refine takeH (i := 7) (some 100) rfl rfl (by kernel_rfl) (by kernel_rfl) (by kernel_rfl) (fun _ _ _ h => h) (by rfl) (fun w hSw => by (try dsimp only at hSw); exact slq_run (j := nL) rfl hq7 rfl rfl rfl (Nat.le_trans p1 hc7)) hHeld ?_
      go_frame
      refine wpAnyH_ready (rs := [8]) (by kernel_rfl) (by simp) (AllReadyH.cons rfl (fun K hK => ?_) AllReadyH.nil)
      go_simp
      refine (sents_yes _ _ L L _ (HEv.out _ hHeld).1 (HEv.out _ hHeld).2.1 (entQ_refl L)).mono ?_
      rintro e W11 ⟨rfl, b11⟩
      show K _ _
      refine hK.out _ _ (ab_trans hHeld b11) (fun hHeld => ?_)
      clear hK K b11
      refine takeH (i := 9) (some 102) rfl rfl (by kernel_rfl) (by kernel_rfl) (by kernel_rfl) (fun _ _ _ h => h) (by rfl) (fun w hSw => by (try dsimp only at hSw); go_simp; try rfl) hHeld ?_
      go_frame
      refine takeH (i := 10) (some 103) rfl rfl (by kernel_rfl) (by kernel_rfl) (by kernel_rfl) (fun _ _ _ h => h) (by rfl) (fun w hSw => by (try dsimp only at hSw); go_simp; try rfl) hHeld ?_
      go_frame
      refine takeH (i := 11) (some 104) rfl rfl (by kernel_rfl) (by kernel_rfl) (by kernel_rfl) (fun _ _ _ h => h) (by rfl) (fun w hSw => by (try dsimp only at hSw); go_simp; try rfl) hHeld ?_
      go_frame
      refine takeH (i := 12) (some 105) rfl rfl (by kernel_rfl) (by kernel_rfl) (by kernel_rfl) (fun _ _ _ h => h) (by rfl) (fun w hSw => by (try dsimp only at hSw); (have q6 := (HEv.out _ hSw).2.2.1.at (i := 0) rfl; go_simp; try rfl)) hHeld ?_
      go_frame
      refine takeH (i := 13) (some 106) rfl rfl (by kernel_rfl) (by kernel_rfl) (by kernel_rfl) (fun _ _ _ h => h) (by rfl) (fun w hSw => by (try dsimp only at hSw); go_simp; try rfl) hHeld ?_
      go_frame
      refine takeH (i := 14) (some 107) rfl rfl (by kernel_rfl) (by kernel_rfl) (by kernel_rfl) (fun _ _ _ h => h) (by rfl) (fun w hSw => by (try dsimp only at hSw); (have q6 := (HEv.out _ hSw).2.2.2.1.at (i := 0) rfl; go_simp; try rfl)) hHeld ?_
      go_frame
      refine takeH (i := 15) (some 108) rfl rfl (by kernel_rfl) (by kernel_rfl) (by kernel_rfl) (fun _ _ _ h => h) (by rfl) (fun w hSw => by (try dsimp only at hSw); go_simp; try rfl) hHeld ?_
      go_frame
      refine takeH (i := 16) (some 109) rfl rfl (by kernel_rfl) (by kernel_rfl) (by kernel_rfl) (fun _ _ _ h => h) (by rfl) (fun w hSw => by (try dsimp only at hSw); go_simp; try rfl) hHeld ?_
      go_frame
      refine wpAnyH_done (by kernel_rfl) ?_ _
      have hb11 := (HEv.out _ hHeld).2.2.2.2
      have HEw : Hid (∀ V, Below W11.heap.size W11 V → Blk V bp #[.int .i64 epy, .int .i64 lnx, .int .i64 f0, .int .i64 f1, .int .i64 t0, .int .i64 t1', .slice q4 nL c4] 48 ∧ Below wr.heap.size wr V) := fun V hV => ⟨(HEv.out V (ab_trans hHeld hV)).2.2.1, (HEv.out V (ab_trans hHeld hV)).2.2.2.2⟩
      clear HEv hHeld hq7
      go_upto_region 18 with (first
        | (go_at_call 16; refine (HCl _ hb11).mono ?_; rintro e W12 ⟨rfl, b12⟩)
        | (refine al_blk rfl rfl #[.int .i64 0, .int .i64 0] (zero_plG _) ?_; intro W13 e13 hX13 b13; clear e13)
        | (refine st_blk rfl rfl hX13 rfl (vs := #[.int .i64 c0, .int .i64 c1]) rfl info_plc rfl (by simp [Value.oneCell']) ?_; intro W14 hX14 C14))
      obtain ⟨hXp, hb14⟩ := HEw.out W14 (ab_trans b12 (ab_chg b13 C14 (Nat.le_refl _)))
      have x4 : W14.cell? ⟨bp, 4, none⟩ = some (.int .i64 t0) := hXp.at rfl
      have x5 : W14.cell? ⟨bp, 5, none⟩ = some (.int .i64 t1') := hXp.at rfl
      have x6 : W14.cell? ⟨bp, 6, none⟩ = some (.slice q4 nL c4) := hXp.at rfl
      have z0 : W14.cell? ⟨W12.heap.size, 0, none⟩ = some (.int .i64 c0) := hX14.at rfl
      have z1 : W14.cell? ⟨W12.heap.size, 1, none⟩ = some (.int .i64 c1) := hX14.at rfl
      obtain ⟨hB14, hw14⟩ := HB.out W14 hb14
      clear hXp hX13 hX14 C14 b13 b12 HEw hb11 HCl hb14
      have HB14 : Hid (Bq W14 W1.heap.size K S ∧ Below w.heap.size w W14) := ⟨hB14, hw14⟩
      clear hB14 hw14 HB
      cases bI
      · go_wp2_with fail
        go_roundw
        case rel => exact ⟨k + 1, by omega, by go_num, HB14.out.1, HB14.out.2⟩
        case measure => simp [intOf]; omega
      · by_cases cl : nL < t
        · have hcl : (nL : Int) < (t : Int) := by omega
          have h9 := HCe.out rfl cl
          injection h9 with h9 h10
          subst h9
          subst h10
          have hz0 : (t0 == t0) = true := by simp
          have hz1 : (t1' == t1') = true := by simp
          go_wp2_with fail
          go_roundw
          case rel => exact ⟨k + 1, by omega, by go_num, HB14.out.1, HB14.out.2⟩
          case measure => simp [intOf]; omega
        · have hcl : ¬ (nL : Int) < (t : Int) := by omega
          go_wp2_with fail
          go_roundw
          case rel => exact ⟨k + 1, by omega, by go_num, HB14.out.1, HB14.out.2⟩
          case measure => simp [intOf]; omega
theorem walk {W : World} (v : Value) (l : List Op5) (hS : ER E5 W v l) (hB : ∀ p ∈ l, Fit5 p) (r : Int) (hr : -9223372036854775808 ≤ r ∧ r ≤ 9223372036854775807) (mark : Int) (hm : -9223372036854775808 ≤ mark ∧ mark ≤ 9223372036854775807) (b0 : Int) (h0 : -9223372036854775808 ≤ b0 ∧ b0 ≤ 9223372036854775807) (b1 : Int) (h1 : -9223372036854775808 ≤ b1 ∧ b1 ≤ 9223372036854775807) (less : Int) (hl : -9223372036854775808 ≤ less ∧ less ≤ 9223372036854775807) (more : Int) (hmo : -9223372036854775808 ≤ more ∧ more ≤ 9223372036854775807) :
    Calls Try.prog 4 #[.agg #[v, .int .i64 r, .int .i64 mark, .int .i64 b0, .int .i64 b1], .int .i64 less, .int .i64 more] W fun e w' => e = .returned (.bool true) ∧ Below W.heap.size W w' := by
  by_cases c : r < 1 ∨ 150 < l.length
  · exact no17 v l r mark b0 b1 less more W hS c
  · exact yes17 v l r mark b0 b1 less more W hS hB ⟨by omega, hr.2⟩ (by unfold J64; omega) ⟨by unfold J64; omega, by unfold J64; omega⟩ (by omega)

theorem own : ownKnob Try.prog.godebug = none := by kernel_rfl
theorem laidOut : laidOutB Try.prog = true := by kernel_rfl

set_option maxRecDepth 100000 in
theorem lifted (os : Os) (started : os.Started) (H : Type) (enc : TypeId × Value → H) :
    ReturnsInHanded {} Try.checked os 4 .any (Rows.gateMostSpec.pre6 enc Try.prog Try.f4 Rows.gateMostRow.domain false) (Rows.gateMostSpec.post enc Try.prog Try.f4 false true false false) := by
  refine returnsInHanded_of_change (C := Try.checked) own started (by kernel_rfl) Try.func4
    (ChangeSpec.witness6 (enc := enc) (C := Try.checked) false ⟨#[], #[.agg #[.slice none 0 0, .int .i64 0, .int .i64 0, .int .i64 0, .int .i64 0], .int .i64 0, .int .i64 0], []⟩ 8 (by kernel_rfl) (by kernel_rfl) (by kernel_rfl) (by kernel_rfl)) ?_
  intro W base args ds gs before hval0 hW hcnd _
  have hval : ∀ (j : Nat) t v, Try.f4.params[j]? = some t → args[j]? = some v → Value.okWide Try.prog W .any base t v := hval0
  have hW' := hW
  obtain ⟨p, q, hA0, hV, rfl, hfz, hnd⟩ := hW
  have hA : DataW.TrodAll enc Try.prog W 0 (fun _ => true) true Try.f4.params.toList args.toList ds p := hA0
  rw [Try.params4] at hA hval
  obtain ⟨v0, vs0, d0, ds0, p0, q0, hargs, rfl, rfl, h0, r0⟩ := trodAll_cons hA
  obtain ⟨v1, vs1, d1, ds1, p1, q1, rfl, rfl, rfl, h1, r1⟩ := trodAll_cons r0
  obtain ⟨v2, vs2, d2, ds2, p2, q2, rfl, rfl, rfl, h2, r2⟩ := trodAll_cons r1
  obtain ⟨rfl, rfl, rfl⟩ := trodAll_nil r2
  obtain rfl : args = #[v0, v1, v2] := by cases args; simp_all
  obtain ⟨rfl, rfl⟩ := trodVars_none hV
  have k0 := h0
  have lt0 : ∀ x ∈ p0, x.block < W.heap.size := by obtain ⟨m, hm⟩ := k0; exact DataW.trod_lt m _ _ _ hm
  have k1 := h1
  have lt1 : ∀ x ∈ p1, x.block < W.heap.size := by obtain ⟨m, hm⟩ := k1; exact DataW.trod_lt m _ _ _ hm
  have k2 := h2
  have lt2 : ∀ x ∈ p2, x.block < W.heap.size := by obtain ⟨m, hm⟩ := k2; exact DataW.trod_lt m _ _ _ hm
  obtain ⟨cs0, rfl, hz0, fm0, hx0⟩ := open_struct (n := 5) Try.underlying26 (by kernel_rfl) (hval 0 26 v0 rfl rfl) h0
  obtain ⟨e0_0, e0_1, e0_2, e0_3, e0_4, rfl⟩ : ∃ e0_0 e0_1 e0_2 e0_3 e0_4, cs0 = #[e0_0, e0_1, e0_2, e0_3, e0_4] := by
    refine ⟨cs0[0], cs0[1], cs0[2], cs0[3], cs0[4], ?_⟩
    apply Array.ext
    · simpa using hz0
    · intro i h1 h2
      have : i = 0 ∨ i = 1 ∨ i = 2 ∨ i = 3 ∨ i = 4 := by omega
      rcases this with rfl | rfl | rfl | rfl | rfl <;> rfl
  obtain ⟨fy0_0, fg0_0⟩ := hx0 0 _ rfl
  obtain ⟨sq0_0, sg0_0, so0_0, sn0_0, sk0_0, sl0_0, ee0_0, hl0_0, hk0_0, hm0_0, hp0_0, hg0_0, hc0_0⟩ := rows_of (n := 5) (D := 8) (fun _ => .i64) Try.underlying22 (by kernel_rfl) (by omega) (kinds_of (by kernel_rfl)) fg0_0
  obtain rfl : e0_0 = .slice sq0_0 sn0_0 sk0_0 := by have h9 : [e0_0] = [Value.slice sq0_0 sn0_0 sk0_0] := ee0_0; simpa using h9
  obtain ⟨S0_0_, B0_0_⟩ := er_rows5 hl0_0 hk0_0 hm0_0 hp0_0 hg0_0 hc0_0
  obtain ⟨fy0_1, fg0_1⟩ := hx0 1 _ rfl
  obtain ⟨a0_1, ea0_1, w0_1⟩ := flat_cell 8 _ 3 _ _ 0 .i64 fg0_1 (by kernel_rfl)
  obtain rfl : e0_1 = .int .i64 a0_1 := by have h9 : ([e0_1] : List Value)[0]? = some (Value.int .i64 a0_1) := ea0_1; simpa using h9
  obtain ⟨fy0_2, fg0_2⟩ := hx0 2 _ rfl
  obtain ⟨a0_2, ea0_2, w0_2⟩ := flat_cell 8 _ 3 _ _ 0 .i64 fg0_2 (by kernel_rfl)
  obtain rfl : e0_2 = .int .i64 a0_2 := by have h9 : ([e0_2] : List Value)[0]? = some (Value.int .i64 a0_2) := ea0_2; simpa using h9
  obtain ⟨fy0_3, fg0_3⟩ := hx0 3 _ rfl
  obtain ⟨a0_3, ea0_3, w0_3⟩ := flat_cell 8 _ 24 _ _ 0 .i64 fg0_3 (by kernel_rfl)
  obtain rfl : e0_3 = .int .i64 a0_3 := by have h9 : ([e0_3, e0_4] : List Value)[0]? = some (Value.int .i64 a0_3) := ea0_3; simpa using h9
  obtain ⟨a0_4, ea0_4, w0_4⟩ := flat_cell 8 _ 24 _ _ 1 .i64 fg0_3 (by kernel_rfl)
  obtain rfl : e0_4 = .int .i64 a0_4 := by have h9 : ([.int .i64 a0_3, e0_4] : List Value)[1]? = some (Value.int .i64 a0_4) := ea0_4; simpa using h9
  obtain ⟨a1, rfl, rfl, rfl, w1⟩ := open_int Try.underlying3 (hval 1 3 v1 rfl rfl) h1
  obtain ⟨a2, rfl, rfl, rfl, w2⟩ := open_int Try.underlying3 (hval 2 3 v2 rfl rfl) h2
  clear hA0 hval0
  refine (walk (.slice sq0_0 sn0_0 sk0_0) _ S0_0_ B0_0_ a0_1 (bounds_i64 w0_1) a0_2 (bounds_i64 w0_2) a0_3 (bounds_i64 w0_3) a0_4 (bounds_i64 w0_4) a1 (bounds_i64 w1) a2 (bounds_i64 w2)).mono fun e W' ⟨he, bel⟩ => ?_
  subst he
  exact ⟨_, rfl, _, _, _, [], _, [], hW', trodAll_mk1 (shut_bool Try.underlying4 _), (trodAll_cons_mk (Below.trod laidOut (by kernel_rfl) (of_decide_eq_true (by kernel_rfl)) k0 bel lt0) (trodAll_cons_mk (Below.trod laidOut (by kernel_rfl) (of_decide_eq_true (by kernel_rfl)) k1 bel lt1) (trodAll_cons_mk (Below.trod laidOut (by kernel_rfl) (of_decide_eq_true (by kernel_rfl)) k2 bel lt2) trodAll_mk0))), rfl, bel.frame _, fun h => by cases h⟩

theorem over : Rows.gateMostRow.holds Try.pinned (OpenSpec.ofChange Rows.gateMostSpec) :=
  OpenClaim.holds_of_wide 4 Try.f4 rfl rfl rfl rfl rfl rfl rfl ⟨rfl, rfl, rfl, rfl, rfl⟩ rfl rfl rfl rfl rfl (by kernel_rfl) Try.func4 (by kernel_rfl)
    (of_decide_eq_true (by kernel_rfl)) (by unfold Func.isWrapper; first | (rw [if_pos (by decide +kernel)]; kernel_rfl) | (rw [if_neg (by decide +kernel)]; exact ⟨rfl, rfl⟩))
    (fun os started H enc _ => lifted os started H enc)

theorem proved : Rows.GateMostSaid := over
end Go.Proofs.Ytggopieeoaggiaa.gateMost
namespace Go.Proofs.Ytggopieeoaggiaa
theorem gateMost_holds : Rows.GateMostSaid := gateMost.proved
#print axioms gateMost_holds
end Go.Proofs.Ytggopieeoaggiaa
