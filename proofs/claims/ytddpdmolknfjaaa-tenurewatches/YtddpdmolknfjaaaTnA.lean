/-
  tenure's calls on values: Nums, Take, and the document's Take.
-/
import Derived.Test.YtddpdmolknfjaaaTnP
import Derived.Test.YtddpdmolknfjaaaChD
import Derived.Test.YtddpdmolknfjaaaFrx
namespace Go.Proofs.Ytddpdmolknfjaaa
open Go.RowKit
set_option linter.unusedVariables false
set_option maxRecDepth 100000

abbrev leC (x : Le) : Array Value := #[.int .i64 x.e, .int .i64 x.h, .int .i64 x.l, .int .i64 x.b]
abbrev leV (x : Le) : Value := .agg (leC x)
theorem info_le (x : Le) : (Try.prog.info? 29).map (·.size) = some (leC x).size := by kernel_rfl
section
variable {ops : Array Oper} {rest : List Oper} {o : Oper} {a : Act} {w : World} {Q : Exit → Act → World → Prop}
/-- A lease into its box. -/
theorem st_le (hgd : o.guard = none) {x y : Operand} (ho : o.op = .store 29 x y) {g : Nat} {k0 k1 : Le} {t : TypeId} (hB : Blk w g (leC k0) t) (hx : a.eval x = .pointer (some ⟨g, 0, none⟩)) (hy : a.eval y = leV k1)
    (h : ∀ W', Blk W' g (leC k1) t → Chg g w W' → wpList Try.prog ops Q rest (a.put o.dst undef) W') : wpList Try.prog ops Q (o :: rest) a w :=
  st_blk hgd ho hB hx hy (info_le k1) rfl (by simp [Value.oneCell']) h
end
set_option maxHeartbeats 1000000 in
theorem tnums_any (x : Le) (w : World) : Calls Try.prog 13 #[leV x] w fun e w' => ∃ g, e = .returned (.slice (some ⟨g, 0, none⟩) 4 4) ∧ Io w' w.heap.size (.slice (some ⟨g, 0, none⟩) 4 4) (numL x) ∧ Below w.heap.size w w' := by
  obtain ⟨e, h, l, b⟩ := x
  go_enter Try.func13, Try.ntmps13
  go_upto_region 1 with fail
  obtain ⟨A, hAe, hB, hw⟩ := blk1 w (leC ⟨e, h, l, b⟩) 29
  rw [show w.alloc (.cells #[.int .i64 e, .int .i64 h, .int .i64 l, .int .i64 b] 29) = A from hAe]
  clear hAe
  have y0 := hB.at (i := 0) rfl
  have y1 := hB.at (i := 1) rfl
  have y2 := hB.at (i := 2) rfl
  have y3 := hB.at (i := 3) rfl
  go_wp2_with (refine bs_own rfl rfl [e, h, l, b] (by simp only [List.map_toArray, List.map_cons, List.map_nil]; rfl) (isl4 _ _ _ _ _) rfl (by decide) ?_; intro W1 hN1 b1 z1; clear z1; go_frame)
  go_ret
  exact ⟨_, rfl, (io_of (l := [e, h, l, b]) hN1).less hw.size, ab_trans hw b1⟩
theorem ret_le {x y : Le} {b c : Bool} (h : b = c ∧ x = y) : Ending.returned (.tuple #[leV y, .bool c]) = .returned (.tuple #[leV x, .bool b]) := by rw [h.1, h.2]
set_option maxHeartbeats 4000000 in
theorem ttake_any (v : Value) (m : List Int) (w : World) (hv : Is w v m) : Calls Try.prog 11 #[v] w fun e w' => e = .returned (.tuple #[leV (tkL m), .bool (isL m)]) ∧ Below w.heap.size w w' := by
  obtain ⟨q, c, e⟩ := hv.form
  subst e
  obtain ⟨n, hn⟩ : ∃ n, m.length = n := ⟨_, rfl⟩
  rw [hn] at hv ⊢
  obtain ⟨A, hAe, hB, hw⟩ := blk1 w (leC zL) 29
  go_enter Try.func11, Try.ntmps11
  go_upto_region 1 with fail
  clear hAe
  by_cases h4 : n = 4
  rotate_left
  · have HN : Hid (isL m = false ∧ tkL m = zL) := isL_no (by omega)
    have h5 : ((n : Int) != 4) = true := by simp; omega
    clear h4 hv hn
    go_wp2_with (refine st_le rfl rfl (k1 := zL) hB rfl rfl ?_; intro W5 hB5 C5)
    exact bodyPost_ret (results_c2 rfl _ _ _ 29 _ (0, 0) _ (.bool false) rfl rfl hB5 Try.underlying29 rfl (info_le zL)) rfl ⟨ret_le HN.out, ab_chg hw C5 (Nat.le_refl _)⟩
  · subst h4
    obtain ⟨e, h, l, b, rfl⟩ := four hn
    obtain ⟨g, off, rfl, hg, hr⟩ := hv.at (by omega)
    have d0 : ∀ V, Below w.heap.size w V → V.cell? ⟨g, off, none⟩ = some (.int .i64 e) := fun V hb => (hb.cell hg).trans (hr 0 e rfl)
    have d1 : ∀ V, Below w.heap.size w V → V.cell? ⟨g, off + 1, none⟩ = some (.int .i64 h) := fun V hb => (hb.cell hg).trans (hr 1 h rfl)
    have d2 : ∀ V, Below w.heap.size w V → V.cell? ⟨g, off + 2, none⟩ = some (.int .i64 l) := fun V hb => (hb.cell hg).trans (hr 2 l rfl)
    have d3 : ∀ V, Below w.heap.size w V → V.cell? ⟨g, off + 3, none⟩ = some (.int .i64 b) := fun V hb => (hb.cell hg).trans (hr 3 b rfl)
    clear hr hv hn
    have h5 : (((4 : Nat) : Int) != 4) = false := rfl
    go_upto_region 3 with fail
    refine wp_region_held_drew (S := fun w' => Below w.heap.size w w') (by kernel_rfl) (ab_drew hw) (fun hHeld => ?_)
    refine takeH (i := 0) (some 9) rfl rfl (by kernel_rfl) (by kernel_rfl) (by kernel_rfl) (fun _ _ _ h => h) (by rfl) (fun w hSw => by (try dsimp only at hSw); go_simp; try rfl) hHeld ?_
    go_frame
    refine takeH (i := 1) (some 10) rfl rfl (by kernel_rfl) (by kernel_rfl) (by kernel_rfl) (fun _ _ _ h => h) (by rfl) (fun w hSw => by (try dsimp only at hSw); go_simp; try rfl) hHeld ?_
    go_frame
    refine takeH (i := 2) (some 11) rfl rfl (by kernel_rfl) (by kernel_rfl) (by kernel_rfl) (fun _ _ _ h => h) (by rfl) (fun w hSw => by (try dsimp only at hSw); have hh := d0 _ hSw; go_simp; try rfl) hHeld ?_
    go_frame
    refine takeH (i := 3) (some 12) rfl rfl (by kernel_rfl) (by kernel_rfl) (by kernel_rfl) (fun _ _ _ h => h) (by rfl) (fun w hSw => by (try dsimp only at hSw); go_simp; try rfl) hHeld ?_
    go_frame
    refine takeH (i := 4) (some 13) rfl rfl (by kernel_rfl) (by kernel_rfl) (by kernel_rfl) (fun _ _ _ h => h) (by rfl) (fun w hSw => by (try dsimp only at hSw); go_simp; try rfl) hHeld ?_
    go_frame
    refine takeH (i := 5) (some 14) rfl rfl (by kernel_rfl) (by kernel_rfl) (by kernel_rfl) (fun _ _ _ h => h) (by rfl) (fun w hSw => by (try dsimp only at hSw); have hh := d1 _ hSw; go_simp; try rfl) hHeld ?_
    go_frame
    refine takeH (i := 6) (some 15) rfl rfl (by kernel_rfl) (by kernel_rfl) (by kernel_rfl) (fun _ _ _ h => h) (by rfl) (fun w hSw => by (try dsimp only at hSw); go_simp; try rfl) hHeld ?_
    go_frame
    refine takeH (i := 7) (some 16) rfl rfl (by kernel_rfl) (by kernel_rfl) (by kernel_rfl) (fun _ _ _ h => h) (by rfl) (fun w hSw => by (try dsimp only at hSw); go_simp; try rfl) hHeld ?_
    go_frame
    refine takeH (i := 8) (some 17) rfl rfl (by kernel_rfl) (by kernel_rfl) (by kernel_rfl) (fun _ _ _ h => h) (by rfl) (fun w hSw => by (try dsimp only at hSw); have hh := d2 _ hSw; go_simp; try rfl) hHeld ?_
    go_frame
    refine takeH (i := 9) (some 18) rfl rfl (by kernel_rfl) (by kernel_rfl) (by kernel_rfl) (fun _ _ _ h => h) (by rfl) (fun w hSw => by (try dsimp only at hSw); go_simp; try rfl) hHeld ?_
    go_frame
    refine takeH (i := 10) (some 19) rfl rfl (by kernel_rfl) (by kernel_rfl) (by kernel_rfl) (fun _ _ _ h => h) (by rfl) (fun w hSw => by (try dsimp only at hSw); go_simp; try rfl) hHeld ?_
    go_frame
    refine takeH (i := 11) (some 20) rfl rfl (by kernel_rfl) (by kernel_rfl) (by kernel_rfl) (fun _ _ _ h => h) (by rfl) (fun w hSw => by (try dsimp only at hSw); have hh := d3 _ hSw; go_simp; try rfl) hHeld ?_
    go_frame
    refine takeH (i := 12) (some 21) rfl rfl (by kernel_rfl) (by kernel_rfl) (by kernel_rfl) (fun _ _ _ h => h) (by rfl) (fun w hSw => by (try dsimp only at hSw); go_simp; try rfl) hHeld ?_
    go_frame
    refine wpAnyH_ready (rs := [13]) (by kernel_rfl) (by simp) (AllReadyH.cons rfl (fun K hK => ?_) AllReadyH.nil)
    rw [if_pos (by rfl)]
    refine alW (some 4) rfl rfl (leC zL) (by kernel_rfl) (fun W2 hB2 b2 => ?_)
    refine hK.out _ _ (ab_trans hHeld b2) (fun hHeld => ?_)
    clear hK K
    refine wpAnyH_ready (rs := [14]) (by kernel_rfl) (by simp) (AllReadyH.cons rfl (fun K hK => ?_) AllReadyH.nil)
    rw [if_pos (by rfl)]
    refine stW none rfl rfl hB2 rfl rfl (info_le ⟨e, h, l, b⟩) rfl (by simp [Value.oneCell']) fun W3 hB3 C3 => ?_
    have hs2 : A.heap.size = A.drew.heap.size := rfl
    have hw3 := ab_chg hHeld C3 (by have := hw.size; omega)
    have hB4 : Blk W3 w.heap.size (leC zL) 29 := (hB.drew.keep b2).chg C3 (by have := hB.lt; omega)
    refine hK.out _ _ hw3 (fun hHeld => ?_)
    clear hK K
    refine wpAnyH_done (by kernel_rfl) ?_ _
    have hB3 : Blk W3 A.heap.size (leC ⟨e, h, l, b⟩) 29 := hB3
    have y0 : W3.cell? ⟨A.heap.size, 0, none⟩ = some (.int .i64 e) := hB3.at rfl
    have y1 : W3.cell? ⟨A.heap.size, 1, none⟩ = some (.int .i64 h) := hB3.at rfl
    have y2 : W3.cell? ⟨A.heap.size, 2, none⟩ = some (.int .i64 l) := hB3.at rfl
    have y3 : W3.cell? ⟨A.heap.size, 3, none⟩ = some (.int .i64 b) := hB3.at rfl
    clear hs2 C3 b2 hB2 d0 d1 d2 d3 hHeld hB
    by_cases i1 : e < 1
    · have HN : Hid (isL [e, h, l, b] = false ∧ tkL [e, h, l, b] = zL) := isL_not (by omega)
      go_upto_region 5 with fail
      clear y0 y1 y2 y3
      go_wp2_with (refine st_le rfl rfl (k1 := zL) hB4 rfl rfl ?_; intro W5 hB5 C5)
      exact bodyPost_ret (results_c2 rfl _ _ _ 29 _ (0, 0) _ (.bool false) rfl rfl hB5 Try.underlying29 rfl (info_le zL)) rfl ⟨ret_le HN.out, ab_chg hw3 C5 (Nat.le_refl _)⟩
    by_cases i2 : h < 0
    · have HN : Hid (isL [e, h, l, b] = false ∧ tkL [e, h, l, b] = zL) := isL_not (by omega)
      go_upto_region 5 with fail
      clear y0 y1 y2 y3
      go_wp2_with (refine st_le rfl rfl (k1 := zL) hB4 rfl rfl ?_; intro W5 hB5 C5)
      exact bodyPost_ret (results_c2 rfl _ _ _ 29 _ (0, 0) _ (.bool false) rfl rfl hB5 Try.underlying29 rfl (info_le zL)) rfl ⟨ret_le HN.out, ab_chg hw3 C5 (Nat.le_refl _)⟩
    by_cases i3 : l < 0
    · have HN : Hid (isL [e, h, l, b] = false ∧ tkL [e, h, l, b] = zL) := isL_not (by omega)
      go_upto_region 5 with fail
      clear y0 y1 y2 y3
      go_wp2_with (refine st_le rfl rfl (k1 := zL) hB4 rfl rfl ?_; intro W5 hB5 C5)
      exact bodyPost_ret (results_c2 rfl _ _ _ 29 _ (0, 0) _ (.bool false) rfl rfl hB5 Try.underlying29 rfl (info_le zL)) rfl ⟨ret_le HN.out, ab_chg hw3 C5 (Nat.le_refl _)⟩
    by_cases i4 : b < 0
    · have HN : Hid (isL [e, h, l, b] = false ∧ tkL [e, h, l, b] = zL) := isL_not (by omega)
      go_upto_region 5 with fail
      clear y0 y1 y2 y3
      go_wp2_with (refine st_le rfl rfl (k1 := zL) hB4 rfl rfl ?_; intro W5 hB5 C5)
      exact bodyPost_ret (results_c2 rfl _ _ _ 29 _ (0, 0) _ (.bool false) rfl rfl hB5 Try.underlying29 rfl (info_le zL)) rfl ⟨ret_le HN.out, ab_chg hw3 C5 (Nat.le_refl _)⟩
    have HN : Hid (isL [e, h, l, b] = true ∧ tkL [e, h, l, b] = ⟨e, h, l, b⟩) := isL_yes (by omega)
    go_upto_region 6 with fail
    clear y0 y1 y2 y3
    go_wp2_with (first
      | (refine ld_blk rfl rfl hB3 rfl _ Try.underlying29 rfl (info_le ⟨e, h, l, b⟩) ?_)
      | (refine st_le rfl rfl (k1 := ⟨e, h, l, b⟩) hB4 rfl rfl ?_; intro W5 hB5 C5))
    exact bodyPost_ret (results_c2 rfl _ _ _ 29 _ (0, 0) _ (.bool true) rfl rfl hB5 Try.underlying29 rfl (info_le ⟨e, h, l, b⟩)) rfl ⟨ret_le HN.out, ab_chg hw3 C5 (Nat.le_refl _)⟩
set_option maxHeartbeats 4000000 in
theorem rttake_any (v : Value) (m : List Int) (w : World) (hv : Is w v m) : Calls Try.prog 12 #[v] w fun e w' => e = .returned (.tuple #[leV (tkL m), .bool (isL m)]) ∧ Below w.heap.size w w' := by
  obtain ⟨q, c, e⟩ := hv.form
  subst e
  obtain ⟨n, hn⟩ : ∃ n, m.length = n := ⟨_, rfl⟩
  rw [hn] at hv ⊢
  obtain ⟨A, hAe, hB, hw⟩ := blk1 w (leC zL) 29
  go_enter Try.func12, Try.ntmps12
  go_upto_region 1 with fail
  clear hAe
  by_cases h4 : n = 4
  rotate_left
  · have HN : Hid (isL m = false ∧ tkL m = zL) := isL_no (by omega)
    have h5 : ((n : Int) != 4) = true := by simp; omega
    clear h4 hv hn
    go_wp2_with (refine st_le rfl rfl (k1 := zL) hB rfl rfl ?_; intro W5 hB5 C5)
    exact bodyPost_ret (results_c2 rfl _ _ _ 29 _ (0, 0) _ (.bool false) rfl rfl hB5 Try.underlying29 rfl (info_le zL)) rfl ⟨ret_le HN.out, ab_chg hw C5 (Nat.le_refl _)⟩
  · subst h4
    obtain ⟨e, h, l, b, rfl⟩ := four hn
    obtain ⟨g, off, rfl, hg, hr⟩ := hv.at (by omega)
    have d0 : ∀ V, Below w.heap.size w V → V.cell? ⟨g, off, none⟩ = some (.int .i64 e) := fun V hb => (hb.cell hg).trans (hr 0 e rfl)
    have d1 : ∀ V, Below w.heap.size w V → V.cell? ⟨g, off + 1, none⟩ = some (.int .i64 h) := fun V hb => (hb.cell hg).trans (hr 1 h rfl)
    have d2 : ∀ V, Below w.heap.size w V → V.cell? ⟨g, off + 2, none⟩ = some (.int .i64 l) := fun V hb => (hb.cell hg).trans (hr 2 l rfl)
    have d3 : ∀ V, Below w.heap.size w V → V.cell? ⟨g, off + 3, none⟩ = some (.int .i64 b) := fun V hb => (hb.cell hg).trans (hr 3 b rfl)
    clear hr hv hn
    have h5 : (((4 : Nat) : Int) != 4) = false := rfl
    have y0 := d0 A hw
    have y1 := d1 A hw
    have y2 := d2 A hw
    have y3 := d3 A hw
    by_cases i1 : e < 1
    · have HN : Hid (isL [e, h, l, b] = false ∧ tkL [e, h, l, b] = zL) := isL_not (by omega)
      go_upto_region 2 with fail
      clear y0 y1 y2 y3
      go_wp2_with (refine st_le rfl rfl (k1 := zL) hB rfl rfl ?_; intro W5 hB5 C5)
      exact bodyPost_ret (results_c2 rfl _ _ _ 29 _ (0, 0) _ (.bool false) rfl rfl hB5 Try.underlying29 rfl (info_le zL)) rfl ⟨ret_le HN.out, ab_chg hw C5 (Nat.le_refl _)⟩
    by_cases i2 : h < 0
    · have HN : Hid (isL [e, h, l, b] = false ∧ tkL [e, h, l, b] = zL) := isL_not (by omega)
      go_upto_region 2 with fail
      clear y0 y1 y2 y3
      go_wp2_with (refine st_le rfl rfl (k1 := zL) hB rfl rfl ?_; intro W5 hB5 C5)
      exact bodyPost_ret (results_c2 rfl _ _ _ 29 _ (0, 0) _ (.bool false) rfl rfl hB5 Try.underlying29 rfl (info_le zL)) rfl ⟨ret_le HN.out, ab_chg hw C5 (Nat.le_refl _)⟩
    by_cases i3 : l < 0
    · have HN : Hid (isL [e, h, l, b] = false ∧ tkL [e, h, l, b] = zL) := isL_not (by omega)
      go_upto_region 2 with fail
      clear y0 y1 y2 y3
      go_wp2_with (refine st_le rfl rfl (k1 := zL) hB rfl rfl ?_; intro W5 hB5 C5)
      exact bodyPost_ret (results_c2 rfl _ _ _ 29 _ (0, 0) _ (.bool false) rfl rfl hB5 Try.underlying29 rfl (info_le zL)) rfl ⟨ret_le HN.out, ab_chg hw C5 (Nat.le_refl _)⟩
    by_cases i4 : b < 0
    · have HN : Hid (isL [e, h, l, b] = false ∧ tkL [e, h, l, b] = zL) := isL_not (by omega)
      go_upto_region 2 with fail
      clear y0 y1 y2 y3
      go_wp2_with (refine st_le rfl rfl (k1 := zL) hB rfl rfl ?_; intro W5 hB5 C5)
      exact bodyPost_ret (results_c2 rfl _ _ _ 29 _ (0, 0) _ (.bool false) rfl rfl hB5 Try.underlying29 rfl (info_le zL)) rfl ⟨ret_le HN.out, ab_chg hw C5 (Nat.le_refl _)⟩
    have HN : Hid (isL [e, h, l, b] = true ∧ tkL [e, h, l, b] = ⟨e, h, l, b⟩) := isL_yes (by omega)
    go_upto_region 3 with fail
    clear y0 y1 y2 y3
    refine wp_region_held_drew (S := fun w' => Below w.heap.size w w') (by kernel_rfl) (ab_drew hw) (fun hHeld => ?_)
    refine takeH (i := 0) (some 32) rfl rfl (by kernel_rfl) (by kernel_rfl) (by kernel_rfl) (fun _ _ _ h => h) (by rfl) (fun w hSw => by (try dsimp only at hSw); go_simp; try rfl) hHeld ?_
    go_frame
    refine takeH (i := 1) (some 33) rfl rfl (by kernel_rfl) (by kernel_rfl) (by kernel_rfl) (fun _ _ _ h => h) (by rfl) (fun w hSw => by (try dsimp only at hSw); go_simp; try rfl) hHeld ?_
    go_frame
    refine takeH (i := 2) (some 34) rfl rfl (by kernel_rfl) (by kernel_rfl) (by kernel_rfl) (fun _ _ _ h => h) (by rfl) (fun w hSw => by (try dsimp only at hSw); have hh := d0 _ hSw; go_simp; try rfl) hHeld ?_
    go_frame
    refine takeH (i := 3) (some 35) rfl rfl (by kernel_rfl) (by kernel_rfl) (by kernel_rfl) (fun _ _ _ h => h) (by rfl) (fun w hSw => by (try dsimp only at hSw); go_simp; try rfl) hHeld ?_
    go_frame
    refine takeH (i := 4) (some 36) rfl rfl (by kernel_rfl) (by kernel_rfl) (by kernel_rfl) (fun _ _ _ h => h) (by rfl) (fun w hSw => by (try dsimp only at hSw); go_simp; try rfl) hHeld ?_
    go_frame
    refine takeH (i := 5) (some 37) rfl rfl (by kernel_rfl) (by kernel_rfl) (by kernel_rfl) (fun _ _ _ h => h) (by rfl) (fun w hSw => by (try dsimp only at hSw); have hh := d1 _ hSw; go_simp; try rfl) hHeld ?_
    go_frame
    refine takeH (i := 6) (some 38) rfl rfl (by kernel_rfl) (by kernel_rfl) (by kernel_rfl) (fun _ _ _ h => h) (by rfl) (fun w hSw => by (try dsimp only at hSw); go_simp; try rfl) hHeld ?_
    go_frame
    refine takeH (i := 7) (some 39) rfl rfl (by kernel_rfl) (by kernel_rfl) (by kernel_rfl) (fun _ _ _ h => h) (by rfl) (fun w hSw => by (try dsimp only at hSw); go_simp; try rfl) hHeld ?_
    go_frame
    refine takeH (i := 8) (some 40) rfl rfl (by kernel_rfl) (by kernel_rfl) (by kernel_rfl) (fun _ _ _ h => h) (by rfl) (fun w hSw => by (try dsimp only at hSw); have hh := d2 _ hSw; go_simp; try rfl) hHeld ?_
    go_frame
    refine takeH (i := 9) (some 41) rfl rfl (by kernel_rfl) (by kernel_rfl) (by kernel_rfl) (fun _ _ _ h => h) (by rfl) (fun w hSw => by (try dsimp only at hSw); go_simp; try rfl) hHeld ?_
    go_frame
    refine takeH (i := 10) (some 42) rfl rfl (by kernel_rfl) (by kernel_rfl) (by kernel_rfl) (fun _ _ _ h => h) (by rfl) (fun w hSw => by (try dsimp only at hSw); go_simp; try rfl) hHeld ?_
    go_frame
    refine takeH (i := 11) (some 43) rfl rfl (by kernel_rfl) (by kernel_rfl) (by kernel_rfl) (fun _ _ _ h => h) (by rfl) (fun w hSw => by (try dsimp only at hSw); have hh := d3 _ hSw; go_simp; try rfl) hHeld ?_
    go_frame
    refine takeH (i := 12) (some 44) rfl rfl (by kernel_rfl) (by kernel_rfl) (by kernel_rfl) (fun _ _ _ h => h) (by rfl) (fun w hSw => by (try dsimp only at hSw); go_simp; try rfl) hHeld ?_
    go_frame
    refine wpAnyH_ready (rs := [13]) (by kernel_rfl) (by simp) (AllReadyH.cons rfl (fun K hK => ?_) AllReadyH.nil)
    rw [if_pos (by rfl)]
    refine stW none rfl rfl hB.drew rfl rfl (info_le ⟨e, h, l, b⟩) rfl (by simp [Value.oneCell']) fun W5 hB5 C5 => ?_
    have hw5 := ab_chg hHeld C5 (Nat.le_refl _)
    refine hK.out _ _ hw5 (fun hHeld => ?_)
    clear hK K
    refine takeH (i := 14) (some 3) rfl rfl (by kernel_rfl) (by kernel_rfl) (by kernel_rfl) (fun _ _ _ h => h) (by rfl) (fun w hSw => by (try dsimp only at hSw); go_simp; try rfl) hHeld ?_
    go_frame
    refine wpAnyH_done (by kernel_rfl) ?_ _
    go_wp2_with fail
    exact bodyPost_ret (results_c2 rfl _ _ _ 29 _ (0, 0) _ (.bool true) rfl rfl hB5 Try.underlying29 rfl (info_le ⟨e, h, l, b⟩)) rfl ⟨ret_le HN.out, hw5⟩
end Go.Proofs.Ytddpdmolknfjaaa
