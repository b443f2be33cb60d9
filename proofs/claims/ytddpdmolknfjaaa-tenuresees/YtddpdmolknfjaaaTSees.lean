/-
  A watch leads just while the value that it saw last is its own lease: estuarylaw13.TenureSees returns true for every input; no condition.
-/
import Derived.Test.YtddpdmolknfjaaaTnE
import Derived.ProofKit
import Derived.OpenShut
import Derived.ChangeOld
import Derived.Below
namespace Go.Proofs.Ytddpdmolknfjaaa.tenureSees
open Go.ChangeShapes Go.WideShapes Go.ChangeAt Go.RowKit Go.Joins
set_option linter.unusedVariables false

/-- The watch that saw a value. -/
def sS (t : Nat) (v : List Int) : Wt := ⟨2, 1, (t : Int), true, v, 0⟩
theorem saw_s (t : Nat) (sn : Bool) (vl v : List Int) : sawW ⟨2, 1, (t : Int), sn, vl, 0⟩ v = sS t v := by
  unfold sawW sS
  by_cases h : v = vl
  · subst h
    cases sn <;> simp
  · rw [decide_eq_false h, Bool.and_false]
    rfl
theorem ld_len {t : Nat} {v : List Int} (h : v.length ≠ 4) : ldB (sS t v) = false ∧ ldN (sS t v) = 0 := by
  have h1 : ldB (sS t v) = false := by
    unfold ldB
    rw [show isL (sS t v).vl = false from (isL_no h).1]
    rfl
  exact ⟨h1, by unfold ldN; rw [h1]; rfl⟩
theorem ld_no {t : Nat} {e h l b : Int} (c : ¬ (1 ≤ e ∧ h = 2 ∧ l = 1 ∧ 0 ≤ b)) : ldB (sS t [e, h, l, b]) = false ∧ ldN (sS t [e, h, l, b]) = 0 := by
  have h1 : ldB (sS t [e, h, l, b]) = false := by
    unfold ldB
    by_cases d : 1 ≤ e ∧ 0 ≤ h ∧ 0 ≤ l ∧ 0 ≤ b
    · rw [show isL (sS t [e, h, l, b]).vl = true from (isL_yes d).1, show tkL (sS t [e, h, l, b]).vl = ⟨e, h, l, b⟩ from (isL_yes d).2]
      show (true && (decide (h = 2) && decide (l = 1))) = false
      by_cases c1 : h = 2
      · have c2 : ¬ l = 1 := by omega
        rw [decide_eq_false c2]
        simp
      · rw [decide_eq_false c1]
        rfl
    · rw [show isL (sS t [e, h, l, b]).vl = false from (isL_not d).1]
      rfl
  exact ⟨h1, by unfold ldN; rw [h1]; rfl⟩
theorem ld_yes {t : Nat} {e b : Int} (c : 1 ≤ e ∧ 0 ≤ b) : ldB (sS t [e, 2, 1, b]) = true ∧ ldN (sS t [e, 2, 1, b]) = e ∧ tkL (sS t [e, 2, 1, b]).vl = ⟨e, 2, 1, b⟩ := by
  have d : 1 ≤ e ∧ (0 : Int) ≤ 2 ∧ (0 : Int) ≤ 1 ∧ 0 ≤ b := by omega
  have h2 : tkL (sS t [e, 2, 1, b]).vl = ⟨e, 2, 1, b⟩ := (isL_yes d).2
  have h1 : ldB (sS t [e, 2, 1, b]) = true := by
    unfold ldB
    rw [show isL (sS t [e, 2, 1, b]).vl = true from (isL_yes d).1, h2]
    rfl
  exact ⟨h1, by unfold ldN; rw [h1, h2]; rfl, h2⟩
set_option maxRecDepth 100000 in
set_option maxHeartbeats 8000000 in
theorem sees_walk (q : Option Addr) (m cap g off : Nat) (os : List (Value × List Int)) (ti : Int) (w : World) (hs : NlRow w q m cap g off os) :
    Calls Try.prog 8 #[.slice q m cap, .int .i64 ti] w fun e w' => e = .returned (.bool true) ∧ Below w.heap.size w w' := by
  go_enter Try.func8, Try.ntmps8
  go_wp2_with fail
  refine (alive13_any _).mono ?_
  rintro e W1 ⟨rfl, b1⟩
  by_cases cm : m ≤ 200
  rotate_left
  · have cm2 : (200 : Int) < (m : Int) := by omega
    go_wp2_with fail
    go_ret
    exact ⟨rfl, b1⟩
  have cm2 : ¬ (200 : Int) < (m : Int) := by omega
  go_upto_region 5 with fail
  clear cm2
  obtain ⟨k1, h1, e1⟩ := mod_nat13 ti 20 (by omega) (by omega)
  go_wp2_with fail
  rw [show 1 + (k1 : Int) = ((k1 + 1 : Nat) : Int) by omega]
  obtain ⟨t, ht⟩ : ∃ t, k1 + 1 = t := ⟨_, rfl⟩
  rw [ht]
  have t1 : 1 ≤ t := by omega
  have t20 : t ≤ 20 := by omega
  clear e1 h1 ht
  refine (tnew_ok 2 1 (t : Int) _ (by omega)).mono ?_
  rintro e W2 ⟨b, rfl, hW2, b2⟩
  have E1 := neq00
  have hb2 := ab_trans b1 b2
  go_wp2_with fail
  clear E1
  go_loopw [31] (fun i wr => ∃ (j : Nat) (sn : Bool) (vl : List Int), j ≤ m ∧ i = .int .i64 (j : Int) ∧ Wh wr W1.heap.size b ⟨2, 1, (t : Int), sn, vl, 0⟩ ∧ Below w.heap.size w wr) (fun i _ => m - (intOf i).toNat)
  case atStart => exact ⟨0, false, [], by omega, rfl, hW2, hb2⟩
  case round =>
    clear hW2 hb2 b2
    obtain ⟨j, sn, vl, hj, rfl, hWj, hb⟩ := hrel
    have b1s := b1.size
    by_cases cj : j = m
    · subst cj
      clear hs
      go_wp2_with fail
      go_ret
      exact ⟨rfl, hb⟩
    · have hjm : j < m := by omega
      have hji : (j : Int) < (m : Int) := by omega
      obtain ⟨⟨vy, y⟩, hy⟩ : ∃ y, os[j]? = some y := ⟨os[j]'(by have := hs.len; omega), List.getElem?_eq_getElem _⟩
      obtain ⟨hcell, hyz⟩ := hs.row j _ hy
      obtain rfl := hs.ptr (by omega)
      have hg := hs.lt (by omega)
      have hfit := hs.fits
      dsimp only at hcell hyz
      have d := keep_cell hb hcell hg
      have hyw := hyz.1
      obtain ⟨qy, cy, e⟩ := hyw.form
      subst e
      obtain ⟨ny, hny⟩ : ∃ n, y.length = n := ⟨_, rfl⟩
      rw [hny] at hyw d
      clear hs hcell hyz hy hg
      by_cases cy1 : ny ≤ 100
      rotate_left
      · have cy2 : (100 : Int) < (ny : Int) := by omega
        go_wp2_with fail
        go_ret
        exact ⟨rfl, hb⟩
      have cy2 : ¬ (100 : Int) < (ny : Int) := by omega
      go_upto_region 13 with fail
      clear cy2 d
      go_wp2_with fail
      refine (tsaw_any _ b _ _ y _ hWj (hyw.keep hb) (by omega)).mono ?_
      rintro e V1 ⟨rfl, hV1, f1⟩
      rw [saw_s] at hV1
      have hb1 : Below w.heap.size w V1 := hb.trans ((hWj.below f1).mono b1s)
      clear f1 hWj hb
      have hbw : ∀ V, Below V1.heap.size V1 V → Below w.heap.size w V := fun V hV => ab_trans hb1 hV
      by_cases c4 : ny = 4
      rotate_left
      · have c5 : ((ny : Int) == 4) = false := by simp; omega
        have HL : Hid (ldB (sS t y) = false ∧ ldN (sS t y) = 0) := ld_len (by omega)
        clear c4
        go_upto_region 15 with fail
        clear c5
        go_wp2_with fail
        refine (tleads_any _ b _ _ hV1).mono ?_
        rintro ee V2 ⟨rfl, v2⟩
        rw [HL.out.1, HL.out.2]
        go_wp2_with fail
        refine (tage_any _ b _ _ (hV1.keep v2)).mono ?_
        rintro ee V3 ⟨rfl, rfl⟩
        rw [show (sS t y).ag = 0 from rfl]
        go_wp2_with fail
        refine (twant_any _ b _ _ (hV1.keep v2)).mono ?_
        rintro ee V4 ⟨⟨q1, c1, q2, c2, rfl, -, -⟩, v4⟩
        have v24 := ab_trans v2 v4
        obtain ⟨A, hAe, hB, hwA⟩ := blk1 V4 (cgC 0 (.slice none 0 0) (.slice none 0 0)) 51
        go_upto_region 19 with (refine st_cg rfl rfl hB rfl rfl ?_; intro V5 hB5 C5)
        have v5 : Below V4.heap.size V4 V5 := ab_chg hwA C5 (Nat.le_refl _)
        have v15 := ab_trans v24 v5
        have hV5 := hV1.keep v15
        have hw5 := hbw V5 v15
        clear hAe hB hwA C5 v24 v5 v4 v2 hV1 hb1 hbw hB5 v15
        refine wp_region_held_drew (S := fun w' => Below V5.heap.size V5 w') (by kernel_rfl) (ab_drew (Below.refl _ _)) (fun hHeld => ?_)
        refine takeH (i := 0) (some 93) rfl rfl (by kernel_rfl) (by kernel_rfl) (by kernel_rfl) (fun _ _ _ h => h) (by rfl) (fun w hSw => by (try dsimp only at hSw); go_simp; try rfl) hHeld ?_
        go_frame
        refine takeH (i := 1) (some 94) rfl rfl (by kernel_rfl) (by kernel_rfl) (by kernel_rfl) (fun _ _ _ h => h) (by rfl) (fun w hSw => by (try dsimp only at hSw); go_simp; try rfl) hHeld ?_
        go_frame
        refine skipH (i := 2) (some 95) rfl rfl (by kernel_rfl) (by kernel_rfl) (by kernel_rfl) (fun _ _ _ h => h) (by rfl) hHeld ?_
        go_frame
        refine skipH (i := 3) (some 96) rfl rfl (by kernel_rfl) (by kernel_rfl) (by kernel_rfl) (fun _ _ _ h => h) (by rfl) hHeld ?_
        go_frame
        refine skipH (i := 4) (some 97) rfl rfl (by kernel_rfl) (by kernel_rfl) (by kernel_rfl) (fun _ _ _ h => h) (by rfl) hHeld ?_
        go_frame
        refine skipH (i := 5) (some 98) rfl rfl (by kernel_rfl) (by kernel_rfl) (by kernel_rfl) (fun _ _ _ h => h) (by rfl) hHeld ?_
        go_frame
        refine skipH (i := 6) (some 99) rfl rfl (by kernel_rfl) (by kernel_rfl) (by kernel_rfl) (fun _ _ _ h => h) (by rfl) hHeld ?_
        go_frame
        refine skipH (i := 7) (some 100) rfl rfl (by kernel_rfl) (by kernel_rfl) (by kernel_rfl) (fun _ _ _ h => h) (by rfl) hHeld ?_
        go_frame
        refine skipH (i := 8) (some 101) rfl rfl (by kernel_rfl) (by kernel_rfl) (by kernel_rfl) (fun _ _ _ h => h) (by rfl) hHeld ?_
        go_frame
        refine skipH (i := 9) (some 102) rfl rfl (by kernel_rfl) (by kernel_rfl) (by kernel_rfl) (fun _ _ _ h => h) (by rfl) hHeld ?_
        go_frame
        refine skipH (i := 10) (some 103) rfl rfl (by kernel_rfl) (by kernel_rfl) (by kernel_rfl) (fun _ _ _ h => h) (by rfl) hHeld ?_
        go_frame
        refine skipH (i := 11) (some 104) rfl rfl (by kernel_rfl) (by kernel_rfl) (by kernel_rfl) (fun _ _ _ h => h) (by rfl) hHeld ?_
        go_frame
        refine skipH (i := 12) (some 105) rfl rfl (by kernel_rfl) (by kernel_rfl) (by kernel_rfl) (fun _ _ _ h => h) (by rfl) hHeld ?_
        go_frame
        refine skipH (i := 13) (some 106) rfl rfl (by kernel_rfl) (by kernel_rfl) (by kernel_rfl) (fun _ _ _ h => h) (by rfl) hHeld ?_
        go_frame
        refine skipH (i := 14) (some 107) rfl rfl (by kernel_rfl) (by kernel_rfl) (by kernel_rfl) (fun _ _ _ h => h) (by rfl) hHeld ?_
        go_frame
        refine skipH (i := 15) (some 108) rfl rfl (by kernel_rfl) (by kernel_rfl) (by kernel_rfl) (fun _ _ _ h => h) (by rfl) hHeld ?_
        go_frame
        refine skipH (i := 16) (some 109) rfl rfl (by kernel_rfl) (by kernel_rfl) (by kernel_rfl) (fun _ _ _ h => h) (by rfl) hHeld ?_
        go_frame
        refine skipH (i := 17) (some 110) rfl rfl (by kernel_rfl) (by kernel_rfl) (by kernel_rfl) (fun _ _ _ h => h) (by rfl) hHeld ?_
        go_frame
        refine skipH (i := 18) (some 111) rfl rfl (by kernel_rfl) (by kernel_rfl) (by kernel_rfl) (fun _ _ _ h => h) (by rfl) hHeld ?_
        go_frame
        refine skipH (i := 19) (some 112) rfl rfl (by kernel_rfl) (by kernel_rfl) (by kernel_rfl) (fun _ _ _ h => h) (by rfl) hHeld ?_
        go_frame
        refine skipH (i := 20) (some 113) rfl rfl (by kernel_rfl) (by kernel_rfl) (by kernel_rfl) (fun _ _ _ h => h) (by rfl) hHeld ?_
        go_frame
        refine skipH (i := 21) (some 114) rfl rfl (by kernel_rfl) (by kernel_rfl) (by kernel_rfl) (fun _ _ _ h => h) (by rfl) hHeld ?_
        go_frame
        refine skipH (i := 22) (some 115) rfl rfl (by kernel_rfl) (by kernel_rfl) (by kernel_rfl) (fun _ _ _ h => h) (by rfl) hHeld ?_
        go_frame
        refine skipH (i := 23) (some 116) rfl rfl (by kernel_rfl) (by kernel_rfl) (by kernel_rfl) (fun _ _ _ h => h) (by rfl) hHeld ?_
        go_frame
        refine skipH (i := 24) (some 117) rfl rfl (by kernel_rfl) (by kernel_rfl) (by kernel_rfl) (fun _ _ _ h => h) (by rfl) hHeld ?_
        go_frame
        refine skipH (i := 25) (some 118) rfl rfl (by kernel_rfl) (by kernel_rfl) (by kernel_rfl) (fun _ _ _ h => h) (by rfl) hHeld ?_
        go_frame
        refine takeH (i := 26) (some 119) rfl rfl (by kernel_rfl) (by kernel_rfl) (by kernel_rfl) (fun _ _ _ h => h) (by rfl) (fun w hSw => by (try dsimp only at hSw); go_simp; try rfl) hHeld ?_
        go_frame
        refine wpAnyH_done (by kernel_rfl) ?_ _
        go_wp2_with fail
        exact ⟨⟨j + 1, true, y, by omega, rfl, hV5.keep hHeld, ab_trans hw5 hHeld⟩, by simp only [intOf]; omega⟩
      subst c4
      obtain ⟨e, h, l, bb, rfl⟩ := four hny
      obtain ⟨gy, oy, rfl, hgy, hry⟩ := hyw.at (by omega)
      have c5 : (((4 : Nat) : Int) == 4) = true := rfl
      have r0 := keep_cell hb1 (hry 0 e rfl) hgy
      have r1 := keep_cell hb1 (hry 1 h rfl) hgy
      have r2 := keep_cell hb1 (hry 2 l rfl) hgy
      have r3 := keep_cell hb1 (hry 3 bb rfl) hgy
      rw [Nat.add_zero] at r0
      by_cases i1 : 1 ≤ e
      rotate_left
      · have HL : Hid (ldB (sS t [e, h, l, bb]) = false ∧ ldN (sS t [e, h, l, bb]) = 0) := ld_no (by omega)
        go_upto_region 15 with fail
        clear c5
        go_wp2_with fail
        refine (tleads_any _ b _ _ hV1).mono ?_
        rintro ee V2 ⟨rfl, v2⟩
        rw [HL.out.1, HL.out.2]
        go_wp2_with fail
        refine (tage_any _ b _ _ (hV1.keep v2)).mono ?_
        rintro ee V3 ⟨rfl, rfl⟩
        rw [show (sS t [e, h, l, bb]).ag = 0 from rfl]
        go_wp2_with fail
        refine (twant_any _ b _ _ (hV1.keep v2)).mono ?_
        rintro ee V4 ⟨⟨q1, c1, q2, c2, rfl, -, -⟩, v4⟩
        have v24 := ab_trans v2 v4
        obtain ⟨A, hAe, hB, hwA⟩ := blk1 V4 (cgC 0 (.slice none 0 0) (.slice none 0 0)) 51
        go_upto_region 19 with (refine st_cg rfl rfl hB rfl rfl ?_; intro V5 hB5 C5)
        have v5 : Below V4.heap.size V4 V5 := ab_chg hwA C5 (Nat.le_refl _)
        have v15 := ab_trans v24 v5
        have hV5 := hV1.keep v15
        have hw5 := hbw V5 v15
        clear hAe hB hwA C5 v24 v5 v4 v2 hV1 hb1 hbw hB5 v15
        refine wp_region_held_drew (S := fun w' => Below V5.heap.size V5 w') (by kernel_rfl) (ab_drew (Below.refl _ _)) (fun hHeld => ?_)
        refine takeH (i := 0) (some 93) rfl rfl (by kernel_rfl) (by kernel_rfl) (by kernel_rfl) (fun _ _ _ h => h) (by rfl) (fun w hSw => by (try dsimp only at hSw); go_simp; try rfl) hHeld ?_
        go_frame
        refine takeH (i := 1) (some 94) rfl rfl (by kernel_rfl) (by kernel_rfl) (by kernel_rfl) (fun _ _ _ h => h) (by rfl) (fun w hSw => by (try dsimp only at hSw); go_simp; try rfl) hHeld ?_
        go_frame
        refine skipH (i := 2) (some 95) rfl rfl (by kernel_rfl) (by kernel_rfl) (by kernel_rfl) (fun _ _ _ h => h) (by rfl) hHeld ?_
        go_frame
        refine skipH (i := 3) (some 96) rfl rfl (by kernel_rfl) (by kernel_rfl) (by kernel_rfl) (fun _ _ _ h => h) (by rfl) hHeld ?_
        go_frame
        refine skipH (i := 4) (some 97) rfl rfl (by kernel_rfl) (by kernel_rfl) (by kernel_rfl) (fun _ _ _ h => h) (by rfl) hHeld ?_
        go_frame
        refine skipH (i := 5) (some 98) rfl rfl (by kernel_rfl) (by kernel_rfl) (by kernel_rfl) (fun _ _ _ h => h) (by rfl) hHeld ?_
        go_frame
        refine skipH (i := 6) (some 99) rfl rfl (by kernel_rfl) (by kernel_rfl) (by kernel_rfl) (fun _ _ _ h => h) (by rfl) hHeld ?_
        go_frame
        refine skipH (i := 7) (some 100) rfl rfl (by kernel_rfl) (by kernel_rfl) (by kernel_rfl) (fun _ _ _ h => h) (by rfl) hHeld ?_
        go_frame
        refine skipH (i := 8) (some 101) rfl rfl (by kernel_rfl) (by kernel_rfl) (by kernel_rfl) (fun _ _ _ h => h) (by rfl) hHeld ?_
        go_frame
        refine skipH (i := 9) (some 102) rfl rfl (by kernel_rfl) (by kernel_rfl) (by kernel_rfl) (fun _ _ _ h => h) (by rfl) hHeld ?_
        go_frame
        refine skipH (i := 10) (some 103) rfl rfl (by kernel_rfl) (by kernel_rfl) (by kernel_rfl) (fun _ _ _ h => h) (by rfl) hHeld ?_
        go_frame
        refine skipH (i := 11) (some 104) rfl rfl (by kernel_rfl) (by kernel_rfl) (by kernel_rfl) (fun _ _ _ h => h) (by rfl) hHeld ?_
        go_frame
        refine skipH (i := 12) (some 105) rfl rfl (by kernel_rfl) (by kernel_rfl) (by kernel_rfl) (fun _ _ _ h => h) (by rfl) hHeld ?_
        go_frame
        refine skipH (i := 13) (some 106) rfl rfl (by kernel_rfl) (by kernel_rfl) (by kernel_rfl) (fun _ _ _ h => h) (by rfl) hHeld ?_
        go_frame
        refine skipH (i := 14) (some 107) rfl rfl (by kernel_rfl) (by kernel_rfl) (by kernel_rfl) (fun _ _ _ h => h) (by rfl) hHeld ?_
        go_frame
        refine skipH (i := 15) (some 108) rfl rfl (by kernel_rfl) (by kernel_rfl) (by kernel_rfl) (fun _ _ _ h => h) (by rfl) hHeld ?_
        go_frame
        refine skipH (i := 16) (some 109) rfl rfl (by kernel_rfl) (by kernel_rfl) (by kernel_rfl) (fun _ _ _ h => h) (by rfl) hHeld ?_
        go_frame
        refine skipH (i := 17) (some 110) rfl rfl (by kernel_rfl) (by kernel_rfl) (by kernel_rfl) (fun _ _ _ h => h) (by rfl) hHeld ?_
        go_frame
        refine skipH (i := 18) (some 111) rfl rfl (by kernel_rfl) (by kernel_rfl) (by kernel_rfl) (fun _ _ _ h => h) (by rfl) hHeld ?_
        go_frame
        refine skipH (i := 19) (some 112) rfl rfl (by kernel_rfl) (by kernel_rfl) (by kernel_rfl) (fun _ _ _ h => h) (by rfl) hHeld ?_
        go_frame
        refine skipH (i := 20) (some 113) rfl rfl (by kernel_rfl) (by kernel_rfl) (by kernel_rfl) (fun _ _ _ h => h) (by rfl) hHeld ?_
        go_frame
        refine skipH (i := 21) (some 114) rfl rfl (by kernel_rfl) (by kernel_rfl) (by kernel_rfl) (fun _ _ _ h => h) (by rfl) hHeld ?_
        go_frame
        refine skipH (i := 22) (some 115) rfl rfl (by kernel_rfl) (by kernel_rfl) (by kernel_rfl) (fun _ _ _ h => h) (by rfl) hHeld ?_
        go_frame
        refine skipH (i := 23) (some 116) rfl rfl (by kernel_rfl) (by kernel_rfl) (by kernel_rfl) (fun _ _ _ h => h) (by rfl) hHeld ?_
        go_frame
        refine skipH (i := 24) (some 117) rfl rfl (by kernel_rfl) (by kernel_rfl) (by kernel_rfl) (fun _ _ _ h => h) (by rfl) hHeld ?_
        go_frame
        refine skipH (i := 25) (some 118) rfl rfl (by kernel_rfl) (by kernel_rfl) (by kernel_rfl) (fun _ _ _ h => h) (by rfl) hHeld ?_
        go_frame
        refine takeH (i := 26) (some 119) rfl rfl (by kernel_rfl) (by kernel_rfl) (by kernel_rfl) (fun _ _ _ h => h) (by rfl) (fun w hSw => by (try dsimp only at hSw); go_simp; try rfl) hHeld ?_
        go_frame
        refine wpAnyH_done (by kernel_rfl) ?_ _
        go_wp2_with fail
        exact ⟨⟨j + 1, true, [e, h, l, bb], by omega, rfl, hV5.keep hHeld, ab_trans hw5 hHeld⟩, by simp only [intOf]; omega⟩
      by_cases i2 : h = 2
      rotate_left
      · have HL : Hid (ldB (sS t [e, h, l, bb]) = false ∧ ldN (sS t [e, h, l, bb]) = 0) := ld_no (by omega)
        have pi2 : ((h : Int) == 2) = false := by simp [i2]
        clear i2
        go_upto_region 15 with fail
        clear c5
        go_wp2_with fail
        refine (tleads_any _ b _ _ hV1).mono ?_
        rintro ee V2 ⟨rfl, v2⟩
        rw [HL.out.1, HL.out.2]
        go_wp2_with fail
        refine (tage_any _ b _ _ (hV1.keep v2)).mono ?_
        rintro ee V3 ⟨rfl, rfl⟩
        rw [show (sS t [e, h, l, bb]).ag = 0 from rfl]
        go_wp2_with fail
        refine (twant_any _ b _ _ (hV1.keep v2)).mono ?_
        rintro ee V4 ⟨⟨q1, c1, q2, c2, rfl, -, -⟩, v4⟩
        have v24 := ab_trans v2 v4
        obtain ⟨A, hAe, hB, hwA⟩ := blk1 V4 (cgC 0 (.slice none 0 0) (.slice none 0 0)) 51
        go_upto_region 19 with (refine st_cg rfl rfl hB rfl rfl ?_; intro V5 hB5 C5)
        have v5 : Below V4.heap.size V4 V5 := ab_chg hwA C5 (Nat.le_refl _)
        have v15 := ab_trans v24 v5
        have hV5 := hV1.keep v15
        have hw5 := hbw V5 v15
        clear hAe hB hwA C5 v24 v5 v4 v2 hV1 hb1 hbw hB5 v15
        refine wp_region_held_drew (S := fun w' => Below V5.heap.size V5 w') (by kernel_rfl) (ab_drew (Below.refl _ _)) (fun hHeld => ?_)
        refine takeH (i := 0) (some 93) rfl rfl (by kernel_rfl) (by kernel_rfl) (by kernel_rfl) (fun _ _ _ h => h) (by rfl) (fun w hSw => by (try dsimp only at hSw); go_simp; try rfl) hHeld ?_
        go_frame
        refine takeH (i := 1) (some 94) rfl rfl (by kernel_rfl) (by kernel_rfl) (by kernel_rfl) (fun _ _ _ h => h) (by rfl) (fun w hSw => by (try dsimp only at hSw); go_simp; try rfl) hHeld ?_
        go_frame
        refine skipH (i := 2) (some 95) rfl rfl (by kernel_rfl) (by kernel_rfl) (by kernel_rfl) (fun _ _ _ h => h) (by rfl) hHeld ?_
        go_frame
        refine skipH (i := 3) (some 96) rfl rfl (by kernel_rfl) (by kernel_rfl) (by kernel_rfl) (fun _ _ _ h => h) (by rfl) hHeld ?_
        go_frame
        refine skipH (i := 4) (some 97) rfl rfl (by kernel_rfl) (by kernel_rfl) (by kernel_rfl) (fun _ _ _ h => h) (by rfl) hHeld ?_
        go_frame
        refine skipH (i := 5) (some 98) rfl rfl (by kernel_rfl) (by kernel_rfl) (by kernel_rfl) (fun _ _ _ h => h) (by rfl) hHeld ?_
        go_frame
        refine skipH (i := 6) (some 99) rfl rfl (by kernel_rfl) (by kernel_rfl) (by kernel_rfl) (fun _ _ _ h => h) (by rfl) hHeld ?_
        go_frame
        refine skipH (i := 7) (some 100) rfl rfl (by kernel_rfl) (by kernel_rfl) (by kernel_rfl) (fun _ _ _ h => h) (by rfl) hHeld ?_
        go_frame
        refine skipH (i := 8) (some 101) rfl rfl (by kernel_rfl) (by kernel_rfl) (by kernel_rfl) (fun _ _ _ h => h) (by rfl) hHeld ?_
        go_frame
        refine skipH (i := 9) (some 102) rfl rfl (by kernel_rfl) (by kernel_rfl) (by kernel_rfl) (fun _ _ _ h => h) (by rfl) hHeld ?_
        go_frame
        refine skipH (i := 10) (some 103) rfl rfl (by kernel_rfl) (by kernel_rfl) (by kernel_rfl) (fun _ _ _ h => h) (by rfl) hHeld ?_
        go_frame
        refine skipH (i := 11) (some 104) rfl rfl (by kernel_rfl) (by kernel_rfl) (by kernel_rfl) (fun _ _ _ h => h) (by rfl) hHeld ?_
        go_frame
        refine skipH (i := 12) (some 105) rfl rfl (by kernel_rfl) (by kernel_rfl) (by kernel_rfl) (fun _ _ _ h => h) (by rfl) hHeld ?_
        go_frame
        refine skipH (i := 13) (some 106) rfl rfl (by kernel_rfl) (by kernel_rfl) (by kernel_rfl) (fun _ _ _ h => h) (by rfl) hHeld ?_
        go_frame
        refine skipH (i := 14) (some 107) rfl rfl (by kernel_rfl) (by kernel_rfl) (by kernel_rfl) (fun _ _ _ h => h) (by rfl) hHeld ?_
        go_frame
        refine skipH (i := 15) (some 108) rfl rfl (by kernel_rfl) (by kernel_rfl) (by kernel_rfl) (fun _ _ _ h => h) (by rfl) hHeld ?_
        go_frame
        refine skipH (i := 16) (some 109) rfl rfl (by kernel_rfl) (by kernel_rfl) (by kernel_rfl) (fun _ _ _ h => h) (by rfl) hHeld ?_
        go_frame
        refine skipH (i := 17) (some 110) rfl rfl (by kernel_rfl) (by kernel_rfl) (by kernel_rfl) (fun _ _ _ h => h) (by rfl) hHeld ?_
        go_frame
        refine skipH (i := 18) (some 111) rfl rfl (by kernel_rfl) (by kernel_rfl) (by kernel_rfl) (fun _ _ _ h => h) (by rfl) hHeld ?_
        go_frame
        refine skipH (i := 19) (some 112) rfl rfl (by kernel_rfl) (by kernel_rfl) (by kernel_rfl) (fun _ _ _ h => h) (by rfl) hHeld ?_
        go_frame
        refine skipH (i := 20) (some 113) rfl rfl (by kernel_rfl) (by kernel_rfl) (by kernel_rfl) (fun _ _ _ h => h) (by rfl) hHeld ?_
        go_frame
        refine skipH (i := 21) (some 114) rfl rfl (by kernel_rfl) (by kernel_rfl) (by kernel_rfl) (fun _ _ _ h => h) (by rfl) hHeld ?_
        go_frame
        refine skipH (i := 22) (some 115) rfl rfl (by kernel_rfl) (by kernel_rfl) (by kernel_rfl) (fun _ _ _ h => h) (by rfl) hHeld ?_
        go_frame
        refine skipH (i := 23) (some 116) rfl rfl (by kernel_rfl) (by kernel_rfl) (by kernel_rfl) (fun _ _ _ h => h) (by rfl) hHeld ?_
        go_frame
        refine skipH (i := 24) (some 117) rfl rfl (by kernel_rfl) (by kernel_rfl) (by kernel_rfl) (fun _ _ _ h => h) (by rfl) hHeld ?_
        go_frame
        refine skipH (i := 25) (some 118) rfl rfl (by kernel_rfl) (by kernel_rfl) (by kernel_rfl) (fun _ _ _ h => h) (by rfl) hHeld ?_
        go_frame
        refine takeH (i := 26) (some 119) rfl rfl (by kernel_rfl) (by kernel_rfl) (by kernel_rfl) (fun _ _ _ h => h) (by rfl) (fun w hSw => by (try dsimp only at hSw); go_simp; try rfl) hHeld ?_
        go_frame
        refine wpAnyH_done (by kernel_rfl) ?_ _
        go_wp2_with fail
        exact ⟨⟨j + 1, true, [e, h, l, bb], by omega, rfl, hV5.keep hHeld, ab_trans hw5 hHeld⟩, by simp only [intOf]; omega⟩
      have pi2 : ((h : Int) == 2) = true := by simp [i2]
      by_cases i3 : l = 1
      rotate_left
      · have HL : Hid (ldB (sS t [e, h, l, bb]) = false ∧ ldN (sS t [e, h, l, bb]) = 0) := ld_no (by omega)
        have pi3 : ((l : Int) == 1) = false := by simp [i3]
        clear i3
        go_upto_region 15 with fail
        clear c5
        go_wp2_with fail
        refine (tleads_any _ b _ _ hV1).mono ?_
        rintro ee V2 ⟨rfl, v2⟩
        rw [HL.out.1, HL.out.2]
        go_wp2_with fail
        refine (tage_any _ b _ _ (hV1.keep v2)).mono ?_
        rintro ee V3 ⟨rfl, rfl⟩
        rw [show (sS t [e, h, l, bb]).ag = 0 from rfl]
        go_wp2_with fail
        refine (twant_any _ b _ _ (hV1.keep v2)).mono ?_
        rintro ee V4 ⟨⟨q1, c1, q2, c2, rfl, -, -⟩, v4⟩
        have v24 := ab_trans v2 v4
        obtain ⟨A, hAe, hB, hwA⟩ := blk1 V4 (cgC 0 (.slice none 0 0) (.slice none 0 0)) 51
        go_upto_region 19 with (refine st_cg rfl rfl hB rfl rfl ?_; intro V5 hB5 C5)
        have v5 : Below V4.heap.size V4 V5 := ab_chg hwA C5 (Nat.le_refl _)
        have v15 := ab_trans v24 v5
        have hV5 := hV1.keep v15
        have hw5 := hbw V5 v15
        clear hAe hB hwA C5 v24 v5 v4 v2 hV1 hb1 hbw hB5 v15
        refine wp_region_held_drew (S := fun w' => Below V5.heap.size V5 w') (by kernel_rfl) (ab_drew (Below.refl _ _)) (fun hHeld => ?_)
        refine takeH (i := 0) (some 93) rfl rfl (by kernel_rfl) (by kernel_rfl) (by kernel_rfl) (fun _ _ _ h => h) (by rfl) (fun w hSw => by (try dsimp only at hSw); go_simp; try rfl) hHeld ?_
        go_frame
        refine takeH (i := 1) (some 94) rfl rfl (by kernel_rfl) (by kernel_rfl) (by kernel_rfl) (fun _ _ _ h => h) (by rfl) (fun w hSw => by (try dsimp only at hSw); go_simp; try rfl) hHeld ?_
        go_frame
        refine skipH (i := 2) (some 95) rfl rfl (by kernel_rfl) (by kernel_rfl) (by kernel_rfl) (fun _ _ _ h => h) (by rfl) hHeld ?_
        go_frame
        refine skipH (i := 3) (some 96) rfl rfl (by kernel_rfl) (by kernel_rfl) (by kernel_rfl) (fun _ _ _ h => h) (by rfl) hHeld ?_
        go_frame
        refine skipH (i := 4) (some 97) rfl rfl (by kernel_rfl) (by kernel_rfl) (by kernel_rfl) (fun _ _ _ h => h) (by rfl) hHeld ?_
        go_frame
        refine skipH (i := 5) (some 98) rfl rfl (by kernel_rfl) (by kernel_rfl) (by kernel_rfl) (fun _ _ _ h => h) (by rfl) hHeld ?_
        go_frame
        refine skipH (i := 6) (some 99) rfl rfl (by kernel_rfl) (by kernel_rfl) (by kernel_rfl) (fun _ _ _ h => h) (by rfl) hHeld ?_
        go_frame
        refine skipH (i := 7) (some 100) rfl rfl (by kernel_rfl) (by kernel_rfl) (by kernel_rfl) (fun _ _ _ h => h) (by rfl) hHeld ?_
        go_frame
        refine skipH (i := 8) (some 101) rfl rfl (by kernel_rfl) (by kernel_rfl) (by kernel_rfl) (fun _ _ _ h => h) (by rfl) hHeld ?_
        go_frame
        refine skipH (i := 9) (some 102) rfl rfl (by kernel_rfl) (by kernel_rfl) (by kernel_rfl) (fun _ _ _ h => h) (by rfl) hHeld ?_
        go_frame
        refine skipH (i := 10) (some 103) rfl rfl (by kernel_rfl) (by kernel_rfl) (by kernel_rfl) (fun _ _ _ h => h) (by rfl) hHeld ?_
        go_frame
        refine skipH (i := 11) (some 104) rfl rfl (by kernel_rfl) (by kernel_rfl) (by kernel_rfl) (fun _ _ _ h => h) (by rfl) hHeld ?_
        go_frame
        refine skipH (i := 12) (some 105) rfl rfl (by kernel_rfl) (by kernel_rfl) (by kernel_rfl) (fun _ _ _ h => h) (by rfl) hHeld ?_
        go_frame
        refine skipH (i := 13) (some 106) rfl rfl (by kernel_rfl) (by kernel_rfl) (by kernel_rfl) (fun _ _ _ h => h) (by rfl) hHeld ?_
        go_frame
        refine skipH (i := 14) (some 107) rfl rfl (by kernel_rfl) (by kernel_rfl) (by kernel_rfl) (fun _ _ _ h => h) (by rfl) hHeld ?_
        go_frame
        refine skipH (i := 15) (some 108) rfl rfl (by kernel_rfl) (by kernel_rfl) (by kernel_rfl) (fun _ _ _ h => h) (by rfl) hHeld ?_
        go_frame
        refine skipH (i := 16) (some 109) rfl rfl (by kernel_rfl) (by kernel_rfl) (by kernel_rfl) (fun _ _ _ h => h) (by rfl) hHeld ?_
        go_frame
        refine skipH (i := 17) (some 110) rfl rfl (by kernel_rfl) (by kernel_rfl) (by kernel_rfl) (fun _ _ _ h => h) (by rfl) hHeld ?_
        go_frame
        refine skipH (i := 18) (some 111) rfl rfl (by kernel_rfl) (by kernel_rfl) (by kernel_rfl) (fun _ _ _ h => h) (by rfl) hHeld ?_
        go_frame
        refine skipH (i := 19) (some 112) rfl rfl (by kernel_rfl) (by kernel_rfl) (by kernel_rfl) (fun _ _ _ h => h) (by rfl) hHeld ?_
        go_frame
        refine skipH (i := 20) (some 113) rfl rfl (by kernel_rfl) (by kernel_rfl) (by kernel_rfl) (fun _ _ _ h => h) (by rfl) hHeld ?_
        go_frame
        refine skipH (i := 21) (some 114) rfl rfl (by kernel_rfl) (by kernel_rfl) (by kernel_rfl) (fun _ _ _ h => h) (by rfl) hHeld ?_
        go_frame
        refine skipH (i := 22) (some 115) rfl rfl (by kernel_rfl) (by kernel_rfl) (by kernel_rfl) (fun _ _ _ h => h) (by rfl) hHeld ?_
        go_frame
        refine skipH (i := 23) (some 116) rfl rfl (by kernel_rfl) (by kernel_rfl) (by kernel_rfl) (fun _ _ _ h => h) (by rfl) hHeld ?_
        go_frame
        refine skipH (i := 24) (some 117) rfl rfl (by kernel_rfl) (by kernel_rfl) (by kernel_rfl) (fun _ _ _ h => h) (by rfl) hHeld ?_
        go_frame
        refine skipH (i := 25) (some 118) rfl rfl (by kernel_rfl) (by kernel_rfl) (by kernel_rfl) (fun _ _ _ h => h) (by rfl) hHeld ?_
        go_frame
        refine takeH (i := 26) (some 119) rfl rfl (by kernel_rfl) (by kernel_rfl) (by kernel_rfl) (fun _ _ _ h => h) (by rfl) (fun w hSw => by (try dsimp only at hSw); go_simp; try rfl) hHeld ?_
        go_frame
        refine wpAnyH_done (by kernel_rfl) ?_ _
        go_wp2_with fail
        exact ⟨⟨j + 1, true, [e, h, l, bb], by omega, rfl, hV5.keep hHeld, ab_trans hw5 hHeld⟩, by simp only [intOf]; omega⟩
      have pi3 : ((l : Int) == 1) = true := by simp [i3]
      by_cases i4 : 0 ≤ bb
      rotate_left
      · have HL : Hid (ldB (sS t [e, h, l, bb]) = false ∧ ldN (sS t [e, h, l, bb]) = 0) := ld_no (by omega)
        go_upto_region 15 with fail
        clear c5
        go_wp2_with fail
        refine (tleads_any _ b _ _ hV1).mono ?_
        rintro ee V2 ⟨rfl, v2⟩
        rw [HL.out.1, HL.out.2]
        go_wp2_with fail
        refine (tage_any _ b _ _ (hV1.keep v2)).mono ?_
        rintro ee V3 ⟨rfl, rfl⟩
        rw [show (sS t [e, h, l, bb]).ag = 0 from rfl]
        go_wp2_with fail
        refine (twant_any _ b _ _ (hV1.keep v2)).mono ?_
        rintro ee V4 ⟨⟨q1, c1, q2, c2, rfl, -, -⟩, v4⟩
        have v24 := ab_trans v2 v4
        obtain ⟨A, hAe, hB, hwA⟩ := blk1 V4 (cgC 0 (.slice none 0 0) (.slice none 0 0)) 51
        go_upto_region 19 with (refine st_cg rfl rfl hB rfl rfl ?_; intro V5 hB5 C5)
        have v5 : Below V4.heap.size V4 V5 := ab_chg hwA C5 (Nat.le_refl _)
        have v15 := ab_trans v24 v5
        have hV5 := hV1.keep v15
        have hw5 := hbw V5 v15
        clear hAe hB hwA C5 v24 v5 v4 v2 hV1 hb1 hbw hB5 v15
        refine wp_region_held_drew (S := fun w' => Below V5.heap.size V5 w') (by kernel_rfl) (ab_drew (Below.refl _ _)) (fun hHeld => ?_)
        refine takeH (i := 0) (some 93) rfl rfl (by kernel_rfl) (by kernel_rfl) (by kernel_rfl) (fun _ _ _ h => h) (by rfl) (fun w hSw => by (try dsimp only at hSw); go_simp; try rfl) hHeld ?_
        go_frame
        refine takeH (i := 1) (some 94) rfl rfl (by kernel_rfl) (by kernel_rfl) (by kernel_rfl) (fun _ _ _ h => h) (by rfl) (fun w hSw => by (try dsimp only at hSw); go_simp; try rfl) hHeld ?_
        go_frame
        refine skipH (i := 2) (some 95) rfl rfl (by kernel_rfl) (by kernel_rfl) (by kernel_rfl) (fun _ _ _ h => h) (by rfl) hHeld ?_
        go_frame
        refine skipH (i := 3) (some 96) rfl rfl (by kernel_rfl) (by kernel_rfl) (by kernel_rfl) (fun _ _ _ h => h) (by rfl) hHeld ?_
        go_frame
        refine skipH (i := 4) (some 97) rfl rfl (by kernel_rfl) (by kernel_rfl) (by kernel_rfl) (fun _ _ _ h => h) (by rfl) hHeld ?_
        go_frame
        refine skipH (i := 5) (some 98) rfl rfl (by kernel_rfl) (by kernel_rfl) (by kernel_rfl) (fun _ _ _ h => h) (by rfl) hHeld ?_
        go_frame
        refine skipH (i := 6) (some 99) rfl rfl (by kernel_rfl) (by kernel_rfl) (by kernel_rfl) (fun _ _ _ h => h) (by rfl) hHeld ?_
        go_frame
        refine skipH (i := 7) (some 100) rfl rfl (by kernel_rfl) (by kernel_rfl) (by kernel_rfl) (fun _ _ _ h => h) (by rfl) hHeld ?_
        go_frame
        refine skipH (i := 8) (some 101) rfl rfl (by kernel_rfl) (by kernel_rfl) (by kernel_rfl) (fun _ _ _ h => h) (by rfl) hHeld ?_
        go_frame
        refine skipH (i := 9) (some 102) rfl rfl (by kernel_rfl) (by kernel_rfl) (by kernel_rfl) (fun _ _ _ h => h) (by rfl) hHeld ?_
        go_frame
        refine skipH (i := 10) (some 103) rfl rfl (by kernel_rfl) (by kernel_rfl) (by kernel_rfl) (fun _ _ _ h => h) (by rfl) hHeld ?_
        go_frame
        refine skipH (i := 11) (some 104) rfl rfl (by kernel_rfl) (by kernel_rfl) (by kernel_rfl) (fun _ _ _ h => h) (by rfl) hHeld ?_
        go_frame
        refine skipH (i := 12) (some 105) rfl rfl (by kernel_rfl) (by kernel_rfl) (by kernel_rfl) (fun _ _ _ h => h) (by rfl) hHeld ?_
        go_frame
        refine skipH (i := 13) (some 106) rfl rfl (by kernel_rfl) (by kernel_rfl) (by kernel_rfl) (fun _ _ _ h => h) (by rfl) hHeld ?_
        go_frame
        refine skipH (i := 14) (some 107) rfl rfl (by kernel_rfl) (by kernel_rfl) (by kernel_rfl) (fun _ _ _ h => h) (by rfl) hHeld ?_
        go_frame
        refine skipH (i := 15) (some 108) rfl rfl (by kernel_rfl) (by kernel_rfl) (by kernel_rfl) (fun _ _ _ h => h) (by rfl) hHeld ?_
        go_frame
        refine skipH (i := 16) (some 109) rfl rfl (by kernel_rfl) (by kernel_rfl) (by kernel_rfl) (fun _ _ _ h => h) (by rfl) hHeld ?_
        go_frame
        refine skipH (i := 17) (some 110) rfl rfl (by kernel_rfl) (by kernel_rfl) (by kernel_rfl) (fun _ _ _ h => h) (by rfl) hHeld ?_
        go_frame
        refine skipH (i := 18) (some 111) rfl rfl (by kernel_rfl) (by kernel_rfl) (by kernel_rfl) (fun _ _ _ h => h) (by rfl) hHeld ?_
        go_frame
        refine skipH (i := 19) (some 112) rfl rfl (by kernel_rfl) (by kernel_rfl) (by kernel_rfl) (fun _ _ _ h => h) (by rfl) hHeld ?_
        go_frame
        refine skipH (i := 20) (some 113) rfl rfl (by kernel_rfl) (by kernel_rfl) (by kernel_rfl) (fun _ _ _ h => h) (by rfl) hHeld ?_
        go_frame
        refine skipH (i := 21) (some 114) rfl rfl (by kernel_rfl) (by kernel_rfl) (by kernel_rfl) (fun _ _ _ h => h) (by rfl) hHeld ?_
        go_frame
        refine skipH (i := 22) (some 115) rfl rfl (by kernel_rfl) (by kernel_rfl) (by kernel_rfl) (fun _ _ _ h => h) (by rfl) hHeld ?_
        go_frame
        refine skipH (i := 23) (some 116) rfl rfl (by kernel_rfl) (by kernel_rfl) (by kernel_rfl) (fun _ _ _ h => h) (by rfl) hHeld ?_
        go_frame
        refine skipH (i := 24) (some 117) rfl rfl (by kernel_rfl) (by kernel_rfl) (by kernel_rfl) (fun _ _ _ h => h) (by rfl) hHeld ?_
        go_frame
        refine skipH (i := 25) (some 118) rfl rfl (by kernel_rfl) (by kernel_rfl) (by kernel_rfl) (fun _ _ _ h => h) (by rfl) hHeld ?_
        go_frame
        refine takeH (i := 26) (some 119) rfl rfl (by kernel_rfl) (by kernel_rfl) (by kernel_rfl) (fun _ _ _ h => h) (by rfl) (fun w hSw => by (try dsimp only at hSw); go_simp; try rfl) hHeld ?_
        go_frame
        refine wpAnyH_done (by kernel_rfl) ?_ _
        go_wp2_with fail
        exact ⟨⟨j + 1, true, [e, h, l, bb], by omega, rfl, hV5.keep hHeld, ab_trans hw5 hHeld⟩, by simp only [intOf]; omega⟩
      subst i2
      subst i3
      have HL : Hid (ldB (sS t [e, 2, 1, bb]) = true ∧ ldN (sS t [e, 2, 1, bb]) = e ∧ tkL (sS t [e, 2, 1, bb]).vl = ⟨e, 2, 1, bb⟩) := ld_yes (by omega)
      go_upto_region 15 with fail
      clear i1 i4
      go_wp2_with fail
      refine (tleads_any _ b _ _ hV1).mono ?_
      rintro ee V2 ⟨rfl, v2⟩
      rw [HL.out.1, HL.out.2.1]
      have r0 := keep_cell (hbw V2 v2) (hry 0 e rfl) hgy
      rw [Nat.add_zero] at r0
      have ne : (e != e) = false := by simp
      go_upto_region 16 with fail
      clear r1 r2 r3
      go_wp2_with fail
      refine (tage_any _ b _ _ (hV1.keep v2)).mono ?_
      rintro ee V3 ⟨rfl, rfl⟩
      rw [show (sS t [e, 2, 1, bb]).ag = 0 from rfl]
      go_wp2_with fail
      clear r0 ne c5
      refine (twant_any _ b _ _ (hV1.keep v2)).mono ?_
      rintro ee V4 ⟨⟨q1, c1, q2, c2, rfl, hO1, hO2⟩, v4⟩
      obtain ⟨x1, x2, x3⟩ := wn_own (S := sS t [e, 2, 1, bb]) rfl HL.out.1 HL.out.2.2
      rw [show (sS t [e, 2, 1, bb]).vl = [e, 2, 1, bb] from rfl] at x2
      rw [x1] at *
      rw [x2] at hO1 ⊢
      rw [x3] at hO2 ⊢
      dsimp only at hO1 hO2
      clear x1 x2 x3
      have v24 := ab_trans v2 v4
      obtain ⟨A, hAe, hB, hwA⟩ := blk1 V4 (cgC 0 (.slice none 0 0) (.slice none 0 0)) 51
      go_upto_region 19 with (refine st_cg rfl rfl hB rfl rfl ?_; intro V5 hB5 C5)
      have v5 : Below V4.heap.size V4 V5 := ab_chg hwA C5 (Nat.le_refl _)
      have v15 := ab_trans v24 v5
      have P1 := hO1.keep v5
      have P2 := hO2.keep v5
      have hV5 := hV1.keep v15
      have hw5 := hbw V5 v15
      have hy5 := hyw.keep hw5
      clear hAe hB hwA C5 v24 v5 v4 v2 hO1 hO2 hV1 hb1 hbw v15
      have y0 : ∀ V, Below V5.heap.size V5 V → V.cell? ⟨V4.heap.size, 0, none⟩ = some (.int .i64 2) := fun V hV => (hB5.keep hV).at rfl
      have y1 : ∀ V, Below V5.heap.size V5 V → V.cell? ⟨V4.heap.size, 1, none⟩ = some (.slice q1 4 c1) := fun V hV => (hB5.keep hV).at rfl
      have y2 : ∀ V, Below V5.heap.size V5 V → V.cell? ⟨V4.heap.size, 2, none⟩ = some (.slice q2 4 c2) := fun V hV => (hB5.keep hV).at rfl
      have s0 : ∀ V, Below V5.heap.size V5 V → V.cell? ⟨gy, oy, none⟩ = some (.int .i64 e) := fun V hV => by have := keep_cell (ab_trans hw5 hV) (hry 0 e rfl) hgy; exact this
      have s3 : ∀ V, Below V5.heap.size V5 V → V.cell? ⟨gy, oy + 3, none⟩ = some (.int .i64 bb) := fun V hV => keep_cell (ab_trans hw5 hV) (hry 3 bb rfl) hgy
      clear hB5 hry
      refine wp_region_held_drew (S := fun w' => Below V5.heap.size V5 w') (by kernel_rfl) (ab_drew (Below.refl _ _)) (fun hHeld => ?_)
      refine takeH (i := 0) (some 93) rfl rfl (by kernel_rfl) (by kernel_rfl) (by kernel_rfl) (fun _ _ _ h => h) (by rfl) (fun w hSw => by (try dsimp only at hSw); go_simp; try rfl) hHeld ?_
      go_frame
      refine takeH (i := 1) (some 94) rfl rfl (by kernel_rfl) (by kernel_rfl) (by kernel_rfl) (fun _ _ _ h => h) (by rfl) (fun w hSw => by (try dsimp only at hSw); go_simp; try rfl) hHeld ?_
      go_frame
      refine takeH (i := 2) (some 95) rfl rfl (by kernel_rfl) (by kernel_rfl) (by kernel_rfl) (fun _ _ _ h => h) (by rfl) (fun w hSw => by (try dsimp only at hSw); go_simp; try rfl) hHeld ?_
      go_frame
      refine takeH (i := 3) (some 96) rfl rfl (by kernel_rfl) (by kernel_rfl) (by kernel_rfl) (fun _ _ _ h => h) (by rfl) (fun w hSw => by (try dsimp only at hSw); have hh := y0 _ hSw; go_simp; try rfl) hHeld ?_
      go_frame
      refine takeH (i := 4) (some 97) rfl rfl (by kernel_rfl) (by kernel_rfl) (by kernel_rfl) (fun _ _ _ h => h) (by rfl) (fun w hSw => by (try dsimp only at hSw); go_simp; try rfl) hHeld ?_
      go_frame
      refine takeH (i := 5) (some 98) rfl rfl (by kernel_rfl) (by kernel_rfl) (by kernel_rfl) (fun _ _ _ h => h) (by rfl) (fun w hSw => by (try dsimp only at hSw); go_simp; try rfl) hHeld ?_
      go_frame
      refine takeH (i := 6) (some 99) rfl rfl (by kernel_rfl) (by kernel_rfl) (by kernel_rfl) (fun _ _ _ h => h) (by rfl) (fun w hSw => by (try dsimp only at hSw); go_simp; try rfl) hHeld ?_
      go_frame
      refine takeH (i := 7) (some 100) rfl rfl (by kernel_rfl) (by kernel_rfl) (by kernel_rfl) (fun _ _ _ h => h) (by rfl) (fun w hSw => by (try dsimp only at hSw); have hh := y1 _ hSw; go_simp; try rfl) hHeld ?_
      go_frame
      refine takeH (i := 8) (some 101) rfl rfl (by kernel_rfl) (by kernel_rfl) (by kernel_rfl) (fun _ _ _ h => h) (by rfl) (fun w hSw => by (try dsimp only at hSw); go_simp; try rfl) hHeld ?_
      go_frame
      refine wpAnyH_ready (rs := [9]) (by kernel_rfl) (by simp) (AllReadyH.cons rfl (fun K hK => ?_) AllReadyH.nil)
      go_simp
      refine (gints_any _ _ [e, 2, 1, bb] [e, 2, 1, bb] _ (P1.is.keep hHeld) (hy5.keep hHeld) (by simp) (by simp)).mono ?_
      rintro ee X1 ⟨rfl, u1⟩
      show K _ _
      rw [decide_eq_true (rfl : [e, 2, 1, bb] = [e, 2, 1, bb])]
      refine hK.out _ _ (ab_trans hHeld u1) (fun hHeld => ?_)
      clear hK K
      refine takeH (i := 10) (some 103) rfl rfl (by kernel_rfl) (by kernel_rfl) (by kernel_rfl) (fun _ _ _ h => h) (by rfl) (fun w hSw => by (try dsimp only at hSw); go_simp; try rfl) hHeld ?_
      go_frame
      refine takeH (i := 11) (some 104) rfl rfl (by kernel_rfl) (by kernel_rfl) (by kernel_rfl) (fun _ _ _ h => h) (by rfl) (fun w hSw => by (try dsimp only at hSw); go_simp; try rfl) hHeld ?_
      go_frame
      refine takeH (i := 12) (some 105) rfl rfl (by kernel_rfl) (by kernel_rfl) (by kernel_rfl) (fun _ _ _ h => h) (by rfl) (fun w hSw => by (try dsimp only at hSw); go_simp; try rfl) hHeld ?_
      go_frame
      refine takeH (i := 13) (some 106) rfl rfl (by kernel_rfl) (by kernel_rfl) (by kernel_rfl) (fun _ _ _ h => h) (by rfl) (fun w hSw => by (try dsimp only at hSw); go_simp; try rfl) hHeld ?_
      go_frame
      refine takeH (i := 14) (some 107) rfl rfl (by kernel_rfl) (by kernel_rfl) (by kernel_rfl) (fun _ _ _ h => h) (by rfl) (fun w hSw => by (try dsimp only at hSw); have hh := y2 _ hSw; go_simp; try rfl) hHeld ?_
      go_frame
      refine takeH (i := 15) (some 108) rfl rfl (by kernel_rfl) (by kernel_rfl) (by kernel_rfl) (fun _ _ _ h => h) (by rfl) (fun w hSw => by (try dsimp only at hSw); go_simp; try rfl) hHeld ?_
      go_frame
      refine takeH (i := 16) (some 109) rfl rfl (by kernel_rfl) (by kernel_rfl) (by kernel_rfl) (fun _ _ _ h => h) (by rfl) (fun w hSw => by (try dsimp only at hSw); go_simp; try rfl) hHeld ?_
      go_frame
      refine takeH (i := 17) (some 110) rfl rfl (by kernel_rfl) (by kernel_rfl) (by kernel_rfl) (fun _ _ _ h => h) (by rfl) (fun w hSw => by (try dsimp only at hSw); have hh := s0 _ hSw; go_simp; try rfl) hHeld ?_
      go_frame
      refine takeH (i := 18) (some 111) rfl rfl (by kernel_rfl) (by kernel_rfl) (by kernel_rfl) (fun _ _ _ h => h) (by rfl) (fun w hSw => by (try dsimp only at hSw); go_simp; try rfl) hHeld ?_
      go_frame
      refine takeH (i := 19) (some 112) rfl rfl (by kernel_rfl) (by kernel_rfl) (by kernel_rfl) (fun _ _ _ h => h) (by rfl) (fun w hSw => by (try dsimp only at hSw); go_simp; try rfl) hHeld ?_
      go_frame
      refine takeH (i := 20) (some 113) rfl rfl (by kernel_rfl) (by kernel_rfl) (by kernel_rfl) (fun _ _ _ h => h) (by rfl) (fun w hSw => by (try dsimp only at hSw); have hh := s3 _ hSw; go_simp; try rfl) hHeld ?_
      go_frame
      refine takeH (i := 21) (v := .int .i64 (nx bb)) (some 114) rfl rfl (by kernel_rfl) (by kernel_rfl) (by kernel_rfl) (fun _ _ _ h => h) (by rfl) (fun w hSw => by (try dsimp only at hSw); simp [go_sem]; exact nx_wrap _) hHeld ?_
      go_frame
      refine wpAnyH_ready (rs := [22]) (by kernel_rfl) (by simp) (AllReadyH.cons rfl (fun K hK => ?_) AllReadyH.nil)
      rw [if_pos (by rfl)]
      refine bs_iW (some 115) rfl rfl [e, 2, 1, nx bb] (by simp only [List.map_toArray, List.map_cons, List.map_nil]; rfl) (isl4 _ _ _ _ _) rfl (by decide) ?_
      intro X2 hN2 u2
      refine hK.out _ _ (ab_trans hHeld u2) (fun hHeld => ?_)
      clear hK K
      refine wpAnyH_ready (rs := [23]) (by kernel_rfl) (by simp) (AllReadyH.cons rfl (fun K hK => ?_) AllReadyH.nil)
      go_simp
      refine (gints_any _ _ [e, 2, 1, nx bb] [e, 2, 1, nx bb] _ (P2.is.keep hHeld) (own_is hN2) (by simp) (by simp)).mono ?_
      rintro ee X3 ⟨rfl, u3⟩
      show K _ _
      rw [decide_eq_true (rfl : [e, 2, 1, nx bb] = [e, 2, 1, nx bb])]
      refine hK.out _ _ (ab_trans hHeld u3) (fun hHeld => ?_)
      clear hK K
      refine takeH (i := 24) (some 117) rfl rfl (by kernel_rfl) (by kernel_rfl) (by kernel_rfl) (fun _ _ _ h => h) (by rfl) (fun w hSw => by (try dsimp only at hSw); go_simp; try rfl) hHeld ?_
      go_frame
      refine takeH (i := 25) (some 118) rfl rfl (by kernel_rfl) (by kernel_rfl) (by kernel_rfl) (fun _ _ _ h => h) (by rfl) (fun w hSw => by (try dsimp only at hSw); go_simp; try rfl) hHeld ?_
      go_frame
      refine takeH (i := 26) (some 119) rfl rfl (by kernel_rfl) (by kernel_rfl) (by kernel_rfl) (fun _ _ _ h => h) (by rfl) (fun w hSw => by (try dsimp only at hSw); go_simp; try rfl) hHeld ?_
      go_frame
      refine wpAnyH_done (by kernel_rfl) ?_ _
      have hV6 := hV5.keep hHeld
      have hw6 := ab_trans hw5 hHeld
      clear y0 y1 y2 s0 s3 P1 P2 hN2 u1 u2 u3 hV5 hw5
      go_wp2_with fail
      exact ⟨⟨j + 1, true, [e, 2, 1, bb], by omega, rfl, hV6, hw6⟩, by simp only [intOf]; omega⟩
theorem walk {W : World} (q : Option Addr) (m cap g off : Nat) (os : List (Value × List Int)) (hs : NlRow W q m cap g off os) (ti : Int) (hti : I64 ti) :
    Calls Try.prog 8 #[.slice q m cap, .int .i64 ti] W fun e w' => e = .returned (.bool true) ∧ Below W.heap.size W w' := sees_walk q m cap g off os ti W hs
theorem own : ownKnob Try.prog.godebug = none := by kernel_rfl
theorem laidOut : laidOutB Try.prog = true := by kernel_rfl

set_option maxRecDepth 100000 in
theorem lifted (os : Os) (started : os.Started) (H : Type) (enc : TypeId × Value → H) :
    ReturnsInHanded {} Try.checked os 8 .any (Rows.tenureSeesSpec.pre6 enc Try.prog Try.f8 Rows.tenureSeesRow.domain false) (Rows.tenureSeesSpec.post enc Try.prog Try.f8 false true false false) := by
  refine returnsInHanded_of_change_sized (C := Try.checked) own started (by kernel_rfl) Try.func8
    (ChangeSpec.witness6 (enc := enc) (C := Try.checked) false ⟨#[], #[.slice none 0 0, .int .i64 0], []⟩ 8 (by kernel_rfl) (by kernel_rfl) (by kernel_rfl) (by kernel_rfl)) ?_
  intro W base args ds gs before hval0 hW hcnd hsz _
  have hval : ∀ (j : Nat) t v, Try.f8.params[j]? = some t → args[j]? = some v → Value.okWide Try.prog W .any base t v := hval0
  have hW' := hW
  obtain ⟨p, q, hA0, hV, rfl, hfz, hnd⟩ := hW
  have hA : DataW.TrodAll enc Try.prog W 0 (fun _ => true) true Try.f8.params.toList args.toList ds p := hA0
  rw [Try.params8] at hA hval
  obtain ⟨v0, vs0, d0, ds0, p0, q0, hargs, rfl, rfl, h0, r0⟩ := trodAll_cons hA
  obtain ⟨v1, vs1, d1, ds1, p1, q1, rfl, rfl, rfl, h1, r1⟩ := trodAll_cons r0
  obtain ⟨rfl, rfl, rfl⟩ := trodAll_nil r1
  obtain rfl : args = #[v0, v1] := by cases args; simp_all
  obtain ⟨rfl, rfl⟩ := trodVars_none hV
  have k0 := h0
  have lt0 : ∀ x ∈ p0, x.block < W.heap.size := by obtain ⟨m, hm⟩ := k0; exact DataW.trod_lt m _ _ _ hm
  have k1 := h1
  have lt1 : ∀ x ∈ p1, x.block < W.heap.size := by obtain ⟨m, hm⟩ := k1; exact DataW.trod_lt m _ _ _ hm
  obtain ⟨sq0_, sn0_, sk0_, sg0_, so0_, os0_, rfl, Z0_⟩ := open_nlists (hval 0 62 v0 rfl rfl) h0 (fun n hn => by simpa using List.all_eq_true.1 hsz n (DataW.weights_mem_each (j := 0) (t := 62) (by kernel_rfl) rfl n hn))
  obtain ⟨a1, rfl, rfl, rfl, w1⟩ := open_int Try.underlying3 (hval 1 3 v1 rfl rfl) h1
  clear hA0 hval0
  refine (walk sq0_ sn0_ sk0_ sg0_ so0_ os0_ Z0_ a1 (bounds_i64 w1)).mono fun e W' ⟨he, bel⟩ => ?_
  subst he
  exact ⟨_, rfl, _, _, _, [], _, [], hW', trodAll_mk1 (shut_bool Try.underlying4 _), (trodAll_cons_mk (Below.trod laidOut (by kernel_rfl) (of_decide_eq_true (by kernel_rfl)) k0 bel lt0) (trodAll_cons_mk (Below.trod laidOut (by kernel_rfl) (of_decide_eq_true (by kernel_rfl)) k1 bel lt1) trodAll_mk0)), rfl, bel.frame _, fun h => by cases h⟩

theorem over : Rows.tenureSeesRow.holds Try.pinned (OpenSpec.ofChange Rows.tenureSeesSpec) :=
  OpenClaim.holds_of_wide 8 Try.f8 rfl rfl rfl rfl rfl rfl rfl ⟨rfl, rfl, rfl, rfl, rfl⟩ rfl rfl rfl rfl rfl (by kernel_rfl) Try.func8 (by kernel_rfl)
    (of_decide_eq_true (by kernel_rfl)) (by unfold Func.isWrapper; first | (rw [if_pos (by decide +kernel)]; kernel_rfl) | (rw [if_neg (by decide +kernel)]; exact ⟨rfl, rfl⟩))
    (fun os started H enc _ => lifted os started H enc)

theorem proved : Rows.TenureSeesSaid := over
end Go.Proofs.Ytddpdmolknfjaaa.tenureSees
namespace Go.Proofs.Ytddpdmolknfjaaa
theorem tenureSees_holds : Rows.TenureSeesSaid := tenureSees.proved
#print axioms tenureSees_holds
end Go.Proofs.Ytddpdmolknfjaaa
