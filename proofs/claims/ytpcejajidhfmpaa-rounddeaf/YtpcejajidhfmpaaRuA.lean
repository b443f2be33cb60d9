/-
  round's small functions.
-/
import Derived.Test.YtpcejajidhfmpaaRuM
namespace Go.Proofs.Ytpcejajidhfmpaa
open Go.RowKit
set_option linter.unusedVariables false
set_option maxRecDepth 100000

abbrev rptr (b : Nat) : Value := .pointer (some ⟨b, 0, none⟩)
theorem Blk.cellV {W : World} {b : Nat} {vs : Array Value} {t : TypeId} (h : Blk W b vs t) {i : Nat} {v : Value} (hv : vs[i]? = some v) : ∀ V, Below W.heap.size W V → V.cell? ⟨b, i, none⟩ = some v := fun V hb => (h.keep hb).at hv
set_option maxHeartbeats 400000 in
theorem rclone_any (v : Value) (l : List Int) (w : World) (hv : Is w v l) (hl : l.length ≤ 100000) : Calls Try.prog 32 #[v] w fun e w' => ∃ v', e = .returned v' ∧ Io w' w.heap.size v' l ∧ Below w.heap.size w w' := by
  go_enter Try.func32, Try.ntmps32
  go_upto_region 1 with fail
  refine wp_region_lit ?_
  refine valS rfl v rfl ?_
  refine app_i w rfl rfl (l := []) (m := l) rfl (own_nil _ _) rfl hv rfl (by omega) (Below.refl _ _) ?_
  intro v' W' hown hnil hb hg hat
  go_wp2_with fail
  go_ret
  exact ⟨_, rfl, io_of hown, hb⟩
theorem rstage_any (b : Nat) (n : Int) (w : World) (c7 : w.cell? ⟨b, 7, none⟩ = some (.int .i64 n)) :
    Calls Try.prog 12 #[rptr b] w fun e w' => e = .returned (.int .i64 n) ∧ w' = w := by
  go_enter Try.func12, Try.ntmps12
  go_wp2_with fail
  go_ret
  exact ⟨rfl, rfl⟩
theorem rstage_nil (w : World) : Calls Try.prog 12 #[.pointer none] w fun e w' => e = .returned (.int .i64 0) ∧ w' = w := by
  go_enter Try.func12, Try.ntmps12
  go_wp2_with fail
  go_ret
  exact ⟨rfl, rfl⟩
set_option maxHeartbeats 400000 in
theorem rballot_any (b : Nat) (x : Bt) (w : World) (c1 : w.cell? ⟨b, 1, none⟩ = some (.int .i64 x.n)) (c2 : w.cell? ⟨b, 2, none⟩ = some (.int .i64 x.nd)) (c3 : w.cell? ⟨b, 3, none⟩ = some (.int .i64 x.lf)) :
    Calls Try.prog 15 #[rptr b] w fun e w' => e = .returned (bV x) ∧ Below w.heap.size w w' := by
  have hlt : b < w.heap.size := World.block_lt_of_cell? w _ c1
  go_enter Try.func15, Try.ntmps15
  go_upto_region 1 with fail
  obtain ⟨A, hAe, hB, hw⟩ := blk1 w #[.int .i64 0, .int .i64 0, .int .i64 0] 23
  rw [hAe]
  have e1 : A.cell? ⟨b, 1, none⟩ = _ := keep_cell hw c1 hlt
  have e2 : A.cell? ⟨b, 2, none⟩ = _ := keep_cell hw c2 hlt
  have e3 : A.cell? ⟨b, 3, none⟩ = _ := keep_cell hw c3 hlt
  obtain ⟨y0, y1, y2⟩ := cells3 (b := zB) hB
  have f0 := hB.frozen 0
  have f1 := hB.frozen 1
  have f2 := hB.frozen 2
  have hbv := Below.refl A.heap.size A
  have hlt2 := hB.lt
  clear hAe c1 c2 c3
  go_wp2_with fail
  have hB3 := ((hB.set 0 (.int .i64 x.n)).set 1 (.int .i64 x.nd)).set 2 (.int .i64 x.lf)
  have C3 := ((chg_set A w.heap.size 0 (.int .i64 x.n)).trans (chg_set _ w.heap.size 1 (.int .i64 x.nd))).trans (chg_set _ w.heap.size 2 (.int .i64 x.lf))
  exact bodyPost_ret (results_cell_row rfl _ _ _ 23 _ (0, 0) _ rfl hB3 Try.underlying23 rfl (info_bt x)) rfl ⟨rfl, ab_chg hw C3 (Nat.le_refl _)⟩
set_option maxHeartbeats 400000 in
theorem rmet_any (b : Nat) (x : Bt) (w : World) (c1 : w.cell? ⟨b, 12, none⟩ = some (.int .i64 x.n)) (c2 : w.cell? ⟨b, 13, none⟩ = some (.int .i64 x.nd)) (c3 : w.cell? ⟨b, 14, none⟩ = some (.int .i64 x.lf)) :
    Calls Try.prog 22 #[rptr b] w fun e w' => e = .returned (bV x) ∧ Below w.heap.size w w' := by
  have hlt : b < w.heap.size := World.block_lt_of_cell? w _ c1
  go_enter Try.func22, Try.ntmps22
  go_upto_region 1 with fail
  obtain ⟨A, hAe, hB, hw⟩ := blk1 w #[.int .i64 0, .int .i64 0, .int .i64 0] 23
  rw [hAe]
  have e1 : A.cell? ⟨b, 12, none⟩ = _ := keep_cell hw c1 hlt
  have e2 : A.cell? ⟨b, 13, none⟩ = _ := keep_cell hw c2 hlt
  have e3 : A.cell? ⟨b, 14, none⟩ = _ := keep_cell hw c3 hlt
  obtain ⟨y0, y1, y2⟩ := cells3 (b := zB) hB
  have f0 := hB.frozen 0
  have f1 := hB.frozen 1
  have f2 := hB.frozen 2
  have hbv := Below.refl A.heap.size A
  have hlt2 := hB.lt
  clear hAe c1 c2 c3
  go_wp2_with fail
  have hB3 := ((hB.set 0 (.int .i64 x.n)).set 1 (.int .i64 x.nd)).set 2 (.int .i64 x.lf)
  have C3 := ((chg_set A w.heap.size 0 (.int .i64 x.n)).trans (chg_set _ w.heap.size 1 (.int .i64 x.nd))).trans (chg_set _ w.heap.size 2 (.int .i64 x.lf))
  exact bodyPost_ret (results_cell_row rfl _ _ _ 23 _ (0, 0) _ rfl hB3 Try.underlying23 rfl (info_bt x)) rfl ⟨rfl, ab_chg hw C3 (Nat.le_refl _)⟩
set_option maxHeartbeats 400000 in
theorem rballot_nil (w : World) : Calls Try.prog 15 #[.pointer none] w fun e w' => e = .returned (bV zB) ∧ Below w.heap.size w w' := by
  go_enter Try.func15, Try.ntmps15
  go_wp2_with fail
  refine bodyPost_ret (v := bV zB) (by simp [results, Try.results15, go_sem, zB]) rfl ⟨rfl, ?_⟩
  repeat (first | exact Below.refl _ _ | refine ab_set ?_ (by dsimp only; omega) _ | refine ab_alloc ?_ _)
set_option maxHeartbeats 400000 in
theorem rmet_nil (w : World) : Calls Try.prog 22 #[.pointer none] w fun e w' => e = .returned (bV zB) ∧ Below w.heap.size w w' := by
  go_enter Try.func22, Try.ntmps22
  go_wp2_with fail
  refine bodyPost_ret (v := bV zB) (by simp [results, Try.results22, go_sem, zB]) rfl ⟨rfl, ?_⟩
  repeat (first | exact Below.refl _ _ | refine ab_set ?_ (by dsimp only; omega) _ | refine ab_alloc ?_ _)
theorem rvalue_any (b : Nat) (v : Value) (l : List Int) (w : World) (c10 : w.cell? ⟨b, 10, none⟩ = some v) (hv : Is w v l) (hl : l.length ≤ 100000) :
    Calls Try.prog 13 #[rptr b] w fun e w' => ∃ v', e = .returned v' ∧ Io w' w.heap.size v' l ∧ Below w.heap.size w w' := by
  obtain ⟨q, c, e⟩ := hv.form
  subst e
  go_enter Try.func13, Try.ntmps13
  go_wp2_with fail
  refine (rclone_any _ l _ hv hl).mono ?_
  rintro e W1 ⟨v1, rfl, hO, hb⟩
  go_wp2_with fail
  go_ret
  exact ⟨_, rfl, hO, hb⟩
theorem rvalue_nil (w : World) : Calls Try.prog 13 #[.pointer none] w fun e w' => e = .returned (.slice none 0 0) ∧ w' = w := by
  go_enter Try.func13, Try.ntmps13
  go_wp2_with fail
  go_ret
  exact ⟨rfl, rfl⟩
theorem rresult_nil (w : World) : Calls Try.prog 17 #[.pointer none] w fun e w' => e = .returned (.tuple #[.slice none 0 0, .nilIface]) ∧ w' = w := by
  go_enter Try.func17, Try.ntmps17
  go_wp2_with fail
  refine (rstage_nil _).mono ?_
  rintro e W1 ⟨rfl, rfl⟩
  go_wp2_with fail
  go_ret2
  exact ⟨rfl, rfl⟩
theorem rmaj_any (b n c : Nat) (w : World) (c0 : w.cell? ⟨b, 0, none⟩ = some (.int .i64 (n : Int))) (hc : c ≤ 1000) :
    Calls Try.prog 34 #[rptr b, .int .i64 (c : Int)] w fun e w' => e = .returned (.bool (decide (n < 2 * c))) ∧ w' = w := by
  go_enter Try.func34, Try.ntmps34
  go_wp2_with fail
  go_ret
  exact ⟨ret_bool (by rw [decide_eq_decide]; omega), rfl⟩
theorem rresult_no (b : Nat) (n : Nat) (w : World) (c7 : w.cell? ⟨b, 7, none⟩ = some (.int .i64 (n : Int))) (hn : n ≠ 3) :
    Calls Try.prog 17 #[rptr b] w fun e w' => e = .returned (.tuple #[.slice none 0 0, .nilIface]) ∧ w' = w := by
  have h1 : ((n : Int) != 3) = true := by simp; omega
  go_enter Try.func17, Try.ntmps17
  go_wp2_with fail
  refine (rstage_any b n _ c7).mono ?_
  rintro e W1 ⟨rfl, rfl⟩
  go_wp2_with fail
  go_ret2
  exact ⟨rfl, rfl⟩
set_option maxHeartbeats 400000 in
theorem rresult_yes (b : Nat) (v x : Value) (l : List Int) (w : World) (c7 : w.cell? ⟨b, 7, none⟩ = some (.int .i64 3)) (c10 : w.cell? ⟨b, 10, none⟩ = some v) (c11 : w.cell? ⟨b, 11, none⟩ = some x) (hv : Is w v l) (hl : l.length ≤ 100000) :
    Calls Try.prog 17 #[rptr b] w fun e w' => ∃ q n c, e = .returned (.tuple #[.slice q n c, x]) ∧ Io w' w.heap.size (.slice q n c) l ∧ l.length = n ∧ Below w.heap.size w w' := by
  have hlt : b < w.heap.size := World.block_lt_of_cell? w _ c7
  have hb0 := Below.refl w.heap.size w
  obtain ⟨q, c, e⟩ := hv.form
  subst e
  obtain ⟨n, hn⟩ : ∃ n, l.length = n := ⟨_, rfl⟩
  rw [hn] at c10 hv
  go_enter Try.func17, Try.ntmps17
  go_upto_region 1 with fail
  go_wp2_with fail
  refine (rstage_any b 3 _ c7).mono ?_
  rintro e W1 ⟨rfl, hW⟩
  subst W1
  go_upto_region 3 with fail
  refine wp_region_held_drew (S := fun w' => Below w.heap.size w w') (by kernel_rfl) (ab_drew (Below.refl _ _)) (fun hHeld => ?_)
  refine takeH (i := 0) (some 7) rfl rfl (by kernel_rfl) (by kernel_rfl) (by kernel_rfl) (fun _ _ _ h => h) (by rfl) (fun w hSw => by (try dsimp only at hSw); go_simp; try rfl) hHeld ?_
  go_frame
  refine takeH (i := 1) (some 8) rfl rfl (by kernel_rfl) (by kernel_rfl) (by kernel_rfl) (fun _ _ _ h => h) (by rfl) (fun w hSw => by (try dsimp only at hSw); go_simp; try rfl) hHeld ?_
  go_frame
  refine takeH (i := 2) (some 9) rfl rfl (by kernel_rfl) (by kernel_rfl) (by kernel_rfl) (fun _ _ _ h => h) (by rfl) (fun w hSw => by (try dsimp only at hSw); go_simp; try rfl) hHeld ?_
  go_frame
  refine takeH (i := 3) (some 10) rfl rfl (by kernel_rfl) (by kernel_rfl) (by kernel_rfl) (fun _ _ _ h => h) (by rfl) (fun w hSw => by (try dsimp only at hSw); have := keep_cell hSw c10 hlt; go_simp; try rfl) hHeld ?_
  go_frame
  refine takeH (i := 5) (some 12) rfl rfl (by kernel_rfl) (by kernel_rfl) (by kernel_rfl) (fun _ _ _ h => h) (by rfl) (fun w hSw => by (try dsimp only at hSw); go_simp; try rfl) hHeld ?_
  go_frame
  refine takeH (i := 6) (some 13) rfl rfl (by kernel_rfl) (by kernel_rfl) (by kernel_rfl) (fun _ _ _ h => h) (by rfl) (fun w hSw => by (try dsimp only at hSw); go_simp; try rfl) hHeld ?_
  go_frame
  refine takeH (i := 7) (some 14) rfl rfl (by kernel_rfl) (by kernel_rfl) (by kernel_rfl) (fun _ _ _ h => h) (by rfl) (fun w hSw => by (try dsimp only at hSw); go_simp; try rfl) hHeld ?_
  go_frame
  refine takeH (i := 8) (some 15) rfl rfl (by kernel_rfl) (by kernel_rfl) (by kernel_rfl) (fun _ _ _ h => h) (by rfl) (fun w hSw => by (try dsimp only at hSw); have := keep_cell hSw c11 hlt; go_simp; try rfl) hHeld ?_
  go_frame
  refine wpAnyH_ready (rs := [4]) (by kernel_rfl) (by simp) (AllReadyH.cons rfl (fun K hK => ?_) AllReadyH.nil)
  go_simp
  refine (rclone_any _ l _ (hv.keep hHeld) hl).mono ?_
  rintro e W4 ⟨v4, rfl, hO4, b4⟩
  show K _ _
  obtain ⟨q4, c4, e4⟩ := hO4.is.form
  rw [hn] at e4
  subst e4
  refine hK.out _ _ (ab_trans hHeld b4) (fun hHeld => ?_)
  clear hK K
  refine takeH (i := 9) (some 2) rfl rfl (by kernel_rfl) (by kernel_rfl) (by kernel_rfl) (fun _ _ _ h => h) (by rfl) (fun w hSw => by (try dsimp only at hSw); go_simp; try rfl) hHeld ?_
  go_frame
  refine takeH (i := 10) (some 3) rfl rfl (by kernel_rfl) (by kernel_rfl) (by kernel_rfl) (fun _ _ _ h => h) (by rfl) (fun w hSw => by (try dsimp only at hSw); go_simp; try rfl) hHeld ?_
  go_frame
  refine wpAnyH_done (by kernel_rfl) ?_ _
  go_wp2_with fail
  go_ret2
  exact ⟨_, _, _, rfl, hO4, hn, hHeld⟩
theorem eqBt (x y : Bt) (w : World) : (binOp .eql 23 (bV x) (bV y)).run Try.prog w = .ok (.bool (eqB x y)) w := by
  have h : eqB x y = (decide (x.n = y.n) && (decide (x.nd = y.nd) && decide (x.lf = y.lf))) := by unfold eqB; rw [Bool.eq_iff_iff]; simp
  rw [h]
  by_cases h1 : x.n = y.n
  · by_cases h2 : x.nd = y.nd
    · by_cases h3 : x.lf = y.lf
      · simp [go_sem, h1, h2, h3]
      · simp [go_sem, h1, h2, h3]
    · simp [go_sem, h1, h2]
  · simp [go_sem, h1]
set_option maxHeartbeats 1000000 in
theorem hears_any (R : Rd) (b : Nat) (k : Int) (x : Bt) (w : World) (c0 : w.cell? ⟨b, 0, none⟩ = some (.int .i64 (R.n : Int))) (c1 : w.cell? ⟨b, 1, none⟩ = some (.int .i64 R.b.n)) (c2 : w.cell? ⟨b, 2, none⟩ = some (.int .i64 R.b.nd)) (c3 : w.cell? ⟨b, 3, none⟩ = some (.int .i64 R.b.lf)) :
    Calls Try.prog 33 #[rptr b, .int .i64 k, bV x] w fun e w' => e = .returned (.bool (hearB R k x)) ∧ Below w.heap.size w w' := by
  have hlt : b < w.heap.size := World.block_lt_of_cell? w _ c1
  go_enter Try.func33, Try.ntmps33
  go_upto_region 1 with fail
  obtain ⟨A, hAe, hB, hw⟩ := blk1 w (bC x) 23
  rw [hAe]
  have hltA : b < A.heap.size := Nat.lt_of_lt_of_le hlt hw.size
  have e0 : ∀ x : Cls A, _ := cls_cell (keep_cell hw c0 hlt) hltA
  have e1 : ∀ x : Cls A, _ := cls_cell (keep_cell hw c1 hlt) hltA
  have e2 : ∀ x : Cls A, _ := cls_cell (keep_cell hw c2 hlt) hltA
  have e3 : ∀ x : Cls A, _ := cls_cell (keep_cell hw c3 hlt) hltA
  have y0 : ∀ x : Cls A, _ := cls_cell (hB.at (i := 0) rfl) hB.lt
  have y1 : ∀ x : Cls A, _ := cls_cell (hB.at (i := 1) rfl) hB.lt
  have y2 : ∀ x : Cls A, _ := cls_cell (hB.at (i := 2) rfl) hB.lt
  have HZ := cls_some A
  have HE : ∀ w, _ := eqBt x R.b
  clear hAe c0 c1 c2 c3 hlt
  refine wp_region_below (by kernel_rfl) (by kernel_rfl) ?_
  cases h1 : eqB x R.b
  · have HF : Hid (hearB R k x = false) := by show _ = _; unfold hearB; rw [h1]; rfl
    rw [h1] at HE
    repeat (go_big_quiet_step (fail))
    refine wpQuiet_nil ?_
    rintro _ ⟨x, rfl⟩
    obtain ⟨W2, hb⟩ := x
    dsimp only
    go_wp2_with fail
    go_ret
    exact ⟨ret_bool HF.out.symm, ab_trans hw hb⟩
  · rw [h1] at HE
    by_cases h2 : 0 ≤ k
    · have HF : Hid (decide (k < (R.n : Int)) = hearB R k x) := by show _ = _; unfold hearB; rw [h1, decide_eq_true h2]; rfl
      have h3 : decide (0 ≤ k) = true := decide_eq_true h2
      repeat (go_big_quiet_step (fail))
      refine wpQuiet_nil ?_
      rintro _ ⟨x, rfl⟩
      obtain ⟨W2, hb⟩ := x
      dsimp only
      go_wp2_with fail
      go_ret
      exact ⟨ret_bool HF.out, ab_trans hw hb⟩
    · have HF : Hid (hearB R k x = false) := by show _ = _; unfold hearB; rw [decide_eq_false h2]; simp
      have h3 : decide (0 ≤ k) = false := decide_eq_false h2
      repeat (go_big_quiet_step (fail))
      refine wpQuiet_nil ?_
      rintro _ ⟨x, rfl⟩
      obtain ⟨W2, hb⟩ := x
      dsimp only
      go_wp2_with fail
      go_ret
      exact ⟨ret_bool HF.out.symm, ab_trans hw hb⟩
theorem hears_nil (k : Int) (x : Bt) (w : World) :
    Calls Try.prog 33 #[.pointer none, .int .i64 k, bV x] w fun e w' => e = .returned (.bool false) ∧ Below w.heap.size w w' := by
  go_enter Try.func33, Try.ntmps33
  go_upto_region 1 with fail
  obtain ⟨A, hAe, hB, hw⟩ := blk1 w (bC x) 23
  rw [hAe]
  clear hAe
  have HZ := cls_some A
  refine wp_region_below (by kernel_rfl) (by kernel_rfl) ?_
  repeat (go_big_quiet_step (fail))
  refine wpQuiet_nil ?_
  rintro _ ⟨x, rfl⟩
  obtain ⟨W2, hb⟩ := x
  dsimp only
  go_wp2_with fail
  go_ret
  exact ⟨rfl, ab_trans hw hb⟩
end Go.Proofs.Ytpcejajidhfmpaa
