/-
  A watch, whatever it sees, holds and wants what the chapter says: estuarylaw13.TenureWatches returns true for every input; no condition.
-/
import Derived.Test.YtddpdmolknfjaaaTnS
import Derived.ProofKit
import Derived.OpenShut
import Derived.ChangeOld
import Derived.Below
namespace Go.Proofs.Ytddpdmolknfjaaa.tenureWatches
open Go.ChangeShapes Go.WideShapes Go.ChangeAt Go.RowKit Go.Joins
set_option linter.unusedVariables false

theorem onl_frm {v : Value} {V W : World} (h : Onl v V W) : Frm (fun k => v.ownBlock = some k) V W := by
  cases hv : v.ownBlock with
  | none => rw [h.2 hv]; exact Frm.refl _ _
  | some g => exact frm_chg (h.1 g hv) rfl
theorem Rh.more {G : Nat → Prop} {W : World} {base d N : Nat} {S : Wt} (h : Rh G W base d N S) : Rh G W base d (N + 1) S := by
  obtain ⟨v', vs', h1, h2, h3, h4, h5⟩ := h.mem
  exact ⟨⟨v', vs', h1, h2, h3, h4, Nat.le_succ_of_le h5⟩, h.len, h.ge, h.age⟩
theorem xr_not {w : World} {k : Nat} {t : TypeId} (h : Xr w k) (ht : kindR w k t) (h1 : 71 ≠ t) (h2 : 27 ≠ t) : False := by
  rcases h with h | h
  · exact h1 (h.uniq ht)
  · exact h2 (h.uniq ht)
theorem rh_less {G : Nat → Prop} {W : World} {base base' d N : Nat} {S : Wt} (h : Rh G W base d N S) (hb : base' ≤ base) : Rh G W base' d N S := by
  obtain ⟨v', vs', h1, h2, h3, h4, h5⟩ := h.mem
  exact ⟨⟨v', vs', h1, own_less h2 hb, h3, fun hs => by obtain ⟨us, q, c, e, i⟩ := h4 hs; exact ⟨us, q, c, e, i.1.less hb, i.2⟩, h5⟩, h.len, Nat.le_trans hb h.ge, h.age⟩
theorem wh_less {W : World} {base base' b : Nat} {S : Wt} (h : Wh W base b S) (hb : base' ≤ base) : Wh W base' b S := by
  obtain ⟨q, c, hB, hO⟩ := h.mem
  exact ⟨⟨q, c, hB, hO.less hb⟩, h.len, Nat.le_trans hb h.ge, h.age⟩
set_option maxRecDepth 100000 in
set_option maxHeartbeats 8000000 in
theorem plays_any (nd lf tk : Int) (q : Option Addr) (m cap g off : Nat) (os : List OpX) (w : World) (hs : OpXRow w q m cap g off os) :
    Calls Try.prog 9 #[.int .i64 nd, .int .i64 lf, .int .i64 tk, .slice q m cap] w fun e w' => e = .returned (.bool true) ∧ Below w.heap.size w w' := by
  go_enter Try.func9, Try.ntmps9
  go_wp2_with fail
  refine (alive13_any _).mono ?_
  rintro e W1 ⟨rfl, b1⟩
  by_cases cm : m ≤ 300
  rotate_left
  · have cm2 : (300 : Int) < (m : Int) := by omega
    go_wp2_with fail
    go_ret
    exact ⟨rfl, b1⟩
  have cm2 : ¬ (300 : Int) < (m : Int) := by omega
  go_upto_region 5 with fail
  clear cm2
  by_cases ok : 0 ≤ nd ∧ 0 ≤ lf ∧ 1 ≤ tk ∧ tk ≤ 20
  rotate_left
  · go_wp2_with fail
    refine (tnew_no nd lf tk _ ok).mono ?_
    rintro e W2 ⟨rfl, rfl⟩
    go_wp2_with fail
    refine (rtnew_no nd lf tk _ ok).mono ?_
    rintro e W2 ⟨rfl, rfl⟩
    clear ok
    go_wp2_with fail
    refine (gnum_any 2 _).mono ?_
    rintro e W2 ⟨rfl, rfl⟩
    go_wp2_with fail
    go_ret
    exact ⟨rfl, b1⟩
  go_wp2_with fail
  refine (tnew_ok nd lf tk _ ok).mono ?_
  rintro e W2 ⟨b, rfl, hW2, b2⟩
  go_wp2_with fail
  refine (rtnew_ok nd lf tk _ ok).mono ?_
  rintro e W3 ⟨d, rfl, hR3, b3⟩
  have hW3 := hW2.keep b3
  have hR3 := rh_less hR3 b2.size
  have hb3 := ab_trans b1 (ab_trans b2 b3)
  have E1 := neq00
  clear ok hW2 b2 b3
  have hs1 := b1.size
  go_wp2_with fail
  clear E1
  go_loopw [64] (fun i wr => ∃ (j : Nat) (S : Wt), j ≤ m ∧ i = .int .i64 (j : Int) ∧ Wh wr W1.heap.size b S ∧ Rh (fun _ => False) wr W1.heap.size d j S ∧ Below w.heap.size w wr) (fun i _ => m - (intOf i).toNat)
  case atStart => exact ⟨0, _, by omega, rfl, hW3, hR3, hb3⟩
  case round =>
    clear hW3 hR3 hb3
    obtain ⟨j, S, hj, rfl, hW, hR, hb⟩ := hrel
    by_cases cj : j = m
    · subst cj
      clear hs
      go_wp2_with fail
      go_ret
      exact ⟨rfl, hb⟩
    have hjm : j < m := by omega
    have hji : (j : Int) < (m : Int) := by omega
    obtain ⟨⟨kd, vy, y, nm⟩, hy⟩ : ∃ y, os[j]? = some y := ⟨os[j]'(by have := hs.len; omega), List.getElem?_eq_getElem _⟩
    obtain ⟨d0, d1, d2, hyw⟩ := hs.row j _ hy
    obtain rfl := hs.ptr (by omega)
    have hg := hs.lt (by omega)
    have hfit := hs.fits
    dsimp only at d0 d1 d2 hyw
    have d0 := keep_cell hb d0 hg
    have d1 := keep_cell hb d1 hg
    have d2 := keep_cell hb d2 hg
    obtain ⟨qy, cy, e⟩ := hyw.form
    subst e
    obtain ⟨ny, hny⟩ : ∃ n, y.length = n := ⟨_, rfl⟩
    rw [hny] at hyw d1
    clear hs hy hg
    obtain ⟨A, hAe, hA, vA⟩ := blk1 wr #[.int .i64 kd, .slice qy ny cy, .int .i64 nm] 69
    go_upto_region 14 with fail
    clear hAe d0 d1 d2
    have hWA := hW.keep vA
    have hRA := hR.keep vA
    have hbA := ab_trans hb vA
    have a0 : A.cell? ⟨wr.heap.size, 0, none⟩ = some (.int .i64 kd) := hA.at rfl
    have a1 : A.cell? ⟨wr.heap.size, 1, none⟩ = some (.slice qy ny cy) := hA.at rfl
    have a2 : A.cell? ⟨wr.heap.size, 2, none⟩ = some (.int .i64 nm) := hA.at rfl
    clear hW hR hb vA
    by_cases cy1 : ny ≤ 100
    rotate_left
    · have cy2 : (100 : Int) < (ny : Int) := by omega
      go_wp2_with fail
      go_ret
      exact ⟨rfl, hbA⟩
    have cy2 : ¬ (100 : Int) < (ny : Int) := by omega
    go_upto_region 16 with fail
    clear cy2
    by_cases k0 : kd = 0
    · have z0 : (kd == 0) = true := by simp [k0]
      clear k0 a2
      go_upto_region 18 with (first
        | (refine bs_own rfl rfl [] (by simp) (isl0 _) rfl (by decide) ?_; intro V1 hN1 v1 z1; clear z1; have a1 : V1.cell? ⟨wr.heap.size, 1, none⟩ = some (.slice qy ny cy) := (hA.keep v1).at rfl; go_frame)
        | (have mk := v1; clear mk; refine app_iL A rfl rfl rfl hN1 rfl (hyw.keep (ab_trans hbA v1)) hny (by omega) v1 ?_; intro v2 V2 own2 nn2 b2 gr2; clear gr2; go_frame))
      obtain ⟨gv, cv, ev, hgb, hgl, hgc, hgm, -⟩ := own_cells own2 (fun e => absurd (nn2.1 e).1 (fun h => by cases h))
      subst ev
      have hI2 : Io V2 A.heap.size (.slice (some ⟨gv, 0, none⟩) ny cv) y := by have h9 := io_of (l := y) own2; rw [Nat.zero_add] at h9; exact h9
      rw [Nat.zero_add]
      clear own2 nn2 hN1 v1 z0
      have hlt2 := hI2.lt
      have hWg := (hWA.g (G := fun k => k = gv) (fun k hk => by rw [hk]; exact (hlt2 gv rfl).1)).keep b2
      have hRg := (hRA.bar (G' := fun k => k = gv) (fun k hk => by rw [hk]; exact (hlt2 gv rfl).1)).keep b2
      have hA2 := hA.keep b2
      have hbw2 := ab_trans hbA b2
      have hG2 : ∀ k, k = gv → k < V2.heap.size := fun k hk => by rw [hk]; exact (hlt2 gv rfl).2
      clear hWA hRA hA b2 a0 a1
      go_wp2_with fail
      refine (tsaw_g _ b _ _ y _ hWg hG2 hI2.is (by omega)).mono ?_
      rintro e V3 ⟨rfl, hW3, f3⟩
      have hno := hWg.wh.noI
      have hkb := hWg.wh.kind
      have hR3 := hRg.frm f3 (fun k hk h9 => by subst hk; exact absurd (hkb.uniq h9) (by decide)) (fun k hk h9 => by subst hk; exact absurd (hkb.uniq h9) (by decide)) (fun k hk h9 => (hno k hk h9).elim)
      have hI3 := hI2.frm f3 hno
      have hA3 := hA2.frm f3 (fun e => by have h9 := hA2.kindR; rw [e] at h9; exact absurd (hkb.uniq h9) (by decide))
      have hbw3 : Below w.heap.size w V3 := hbw2.trans ((hWg.wh.below f3).mono hs1)
      have hG3 : ∀ k, k = gv → k < V3.heap.size := fun k hk => Nat.lt_of_lt_of_le (hG2 k hk) f3.size
      have a1 : V3.cell? ⟨wr.heap.size, 1, none⟩ = some (.slice qy ny cy) := hA3.at rfl
      clear hWg hRg hI2 hA2 hbw2 hG2 f3 hno hkb hlt2
      go_wp2_with fail
      refine (rtsaw_any _ d _ _ _ y _ hR3 hG3 (hyw.keep hbw3) (by omega) (by omega)).mono ?_
      rintro e V4 ⟨rfl, hR4, f4, bl4⟩
      have hW4 := hW3.frm f4 (fun k hk h9 => xr_not hk h9 (by decide) (by decide)) (fun k hk h9 => (xr_not hk h9 (by decide) (by decide)).elim)
      have hI4 := hI3.frm f4 (fun k hk h9 => xr_not hk h9 (by decide) (by decide))
      have hA4 := hA3.frm f4 (fun hk => xr_not hk hA3.kindR (by decide) (by decide))
      have hbw4 : Below w.heap.size w V4 := hbw3.trans (bl4.mono hs1)
      have a1 : V4.cell? ⟨wr.heap.size, 1, none⟩ = some (.slice qy ny cy) := hA4.at rfl
      clear hW3 hR3 hI3 hA3 hbw3 hG3 f4 bl4
      go_wp2_with fail
      refine (gints_any _ _ y y _ hI4.is (hyw.keep hbw4) (by omega) (by omega)).mono ?_
      rintro e V5 ⟨rfl, v5⟩
      rw [decide_eq_true (rfl : y = y)]
      have hW5 := hW4.keep v5
      have hR5 := hR4.keep v5
      have hO5 := hI4.keep v5
      have hbw5 := ab_trans hbw4 v5
      unfold Io at hO5
      rw [hny] at hO5
      clear hW4 hR4 hI4 hA4 hbw4 v5 a1
      go_wp2_with fail
      go_loopw [93] (fun i wr => ∃ (k : Nat) (ys : List Int), k ≤ ny ∧ i = .int .i64 (k : Int) ∧ wr.ownsRow A.heap.size 3 1 (.slice (some ⟨gv, 0, none⟩) ny cv) ny (ints ys) ∧ Onl (.slice (some ⟨gv, 0, none⟩) ny cv) V5 wr) (fun i _ => ny - (intOf i).toNat)
      case atStart => exact ⟨0, _, by omega, rfl, hO5, Onl.refl _ _⟩
      case round =>
        obtain ⟨k, ys, hk, rfl, h, hk1⟩ := hrel
        by_cases ck : k = ny
        · subst ck
          have hf := onl_frm hk1
          have hkg : ∀ x, (Value.slice (some ⟨gv, 0, none⟩) k cv).ownBlock = some x → kindR V5 x 3 := fun x hx => own_kindR hO5 hx
          have hWV := (hW5.frm hf (fun x hx h9 => absurd ((hkg x hx).uniq h9) (by decide)) (fun x hx _ => by cases hx; rfl)).wh
          have hRV := (hR5.frm hf (fun x hx h9 => absurd ((hkg x hx).uniq h9) (by decide)) (fun x hx h9 => absurd ((hkg x hx).uniq h9) (by decide)) (fun x hx _ => by cases hx; rfl)).bar (G' := fun _ => False) (fun x hx => hx.elim)
          have hbV : Below w.heap.size w wr := hbw5.trans ((hk1.below (n := A.heap.size) (fun x hx => (World.ownsRow.lt hO5 x hx).1)).mono hbA.size)
          clear hW5 hR5 hO5 hbw5 h hk1 hf hkg
          as_aux_lemma =>
            go_wp2_with fail
            refine (tleads_any _ b _ _ hWV).mono ?_
            rintro e X1 ⟨rfl, x1⟩
            go_wp2_with fail
            refine (rtleads_any _ d _ _ _ (hRV.keep x1)).mono ?_
            rintro e X2 ⟨rfl, x2⟩
            have x12 := ab_trans x1 x2
            generalize hn0 : ldN (sawW S y) = n0
            generalize hb0 : ldB (sawW S y) = b0
            clear hn0 hb0
            go_wp2_with fail
            refine (tlease_any _ b _ _ (hWV.keep x12)).mono ?_
            rintro e X3 ⟨rfl, x3⟩
            obtain ⟨x, hx⟩ : ∃ x, tkL ((sawW S y)).vl = x := ⟨_, rfl⟩
            obtain ⟨t0, ht0⟩ : ∃ x, isL ((sawW S y)).vl = x := ⟨_, rfl⟩
            rw [hx, ht0]
            obtain ⟨B, hBe, hL, hwL⟩ := blk1 X3 (leC zL) 29
            go_upto_region 35 with (refine st_le rfl rfl (k1 := x) hL rfl rfl ?_; intro X4 hL4 C4)
            have x34 := ab_trans x3 (ab_chg hwL C4 (Nat.le_refl _))
            have x14 := ab_trans x12 x34
            clear hBe hL hwL C4 x3 x34 x12 x1 x2
            go_wp2_with fail
            refine (rtlease_any _ d _ _ _ (hRV.keep x14)).mono ?_
            rintro e X5 ⟨rfl, x5⟩
            rw [hx, ht0]
            clear hx ht0
            have hL5 := hL4.keep x5
            obtain ⟨B2, hBe, hM, hwM⟩ := blk1 X5 (leC zL) 29
            go_upto_region 36 with (refine st_le rfl rfl (k1 := x) hM rfl rfl ?_; intro X6 hM6 C6)
            have x56 := ab_chg hwM C6 (Nat.le_refl _)
            have x16 := ab_trans x14 (ab_trans x5 x56)
            have hL6 := hL5.keep x56
            have hW6 := hWV.keep x16
            have hR6 := hRV.keep x16
            have hb6 := ab_trans hbV x16
            clear hBe hM hwM C6 x5 x56 x14 x16 hL4 hL5 hWV hRV hbV
            go_wp2_with fail
            refine (twant_any _ b _ _ hW6).mono ?_
            rintro e X7 ⟨⟨q1, c1, q2, c2, rfl, hO1, hO2⟩, x7⟩
            obtain ⟨n1, hn1⟩ : ∃ n, (wnO ((sawW S y))).length = n := ⟨_, rfl⟩
            obtain ⟨n2, hn2⟩ : ∃ n, (wnN ((sawW S y))).length = n := ⟨_, rfl⟩
            have hn1b : n1 ≤ 100000 := by
              rw [← hn1]
              unfold wnO
              split
              · exact Nat.zero_le _
              · exact hW6.len
            have hn2b : n2 ≤ 100000 := by
              rw [← hn2]
              unfold wnN
              split
              · exact Nat.zero_le _
              · split <;> exact Nat.le_of_lt (show 4 < 100000 by decide)
            rw [hn1] at hO1 ⊢
            rw [hn2] at hO2 ⊢
            obtain ⟨k0, hk0⟩ : ∃ x, wnK ((sawW S y)) = x := ⟨_, rfl⟩
            rw [hk0]
            obtain ⟨B3, hBe, hQ, hwQ⟩ := blk1 X7 (cgC 0 (.slice none 0 0) (.slice none 0 0)) 51
            go_upto_region 37 with (refine st_cg rfl rfl hQ rfl rfl ?_; intro X8 hQ8 C8)
            have x78 := ab_chg hwQ C8 (Nat.le_refl _)
            have x68 := ab_trans x7 x78
            have hL8 := hL6.keep x68
            have hM8 := hM6.keep x68
            have hW8 := hW6.keep x68
            have hR8 := hR6.keep x68
            have hP1 := hO1.keep x78
            have hP2 := hO2.keep x78
            clear hBe hQ hwQ C8 x78 x7 hL6 hM6 hO1 hO2
            have ne1 : (n0 != n0) = false := by simp
            have ne2 : (b0 != b0) = false := by cases b0 <;> rfl
            have ne3 : (t0 != t0) = false := by cases t0 <;> rfl
            have ne4 : (((sawW S y)).ag != ((sawW S y)).ag) = false := by simp
            have E1 := neLe x
            refine wp_region_held_drew (S := fun w' => Below X8.heap.size X8 w') (by kernel_rfl) (ab_drew (Below.refl _ _)) (fun hHeld => ?_)
            refine takeH (i := 0) (some 133) rfl rfl (by kernel_rfl) (by kernel_rfl) (by kernel_rfl) (fun _ _ _ h => h) (by rfl) (fun w hSw => by (try dsimp only at hSw); go_simp; try rfl) hHeld ?_
            go_frame
            refine takeH (i := 1) (some 134) rfl rfl (by kernel_rfl) (by kernel_rfl) (by kernel_rfl) (fun _ _ _ h => h) (by rfl) (fun w hSw => by (try dsimp only at hSw); go_simp; try rfl) hHeld ?_
            go_frame
            refine takeH (i := 2) (some 135) rfl rfl (by kernel_rfl) (by kernel_rfl) (by kernel_rfl) (fun _ _ _ h => h) (by rfl) (fun w hSw => by (try dsimp only at hSw); go_simp; try rfl) hHeld ?_
            go_frame
            refine takeH (i := 3) (some 136) rfl rfl (by kernel_rfl) (by kernel_rfl) (by kernel_rfl) (fun _ _ _ h => h) (by rfl) (fun w hSw => by (try dsimp only at hSw); go_simp; try rfl) hHeld ?_
            go_frame
            refine takeH (i := 4) (some 137) rfl rfl (by kernel_rfl) (by kernel_rfl) (by kernel_rfl) (fun _ _ _ h => h) (by rfl) (fun w hSw => by (try dsimp only at hSw); go_simp; try rfl) hHeld ?_
            go_frame
            refine takeH (i := 5) (some 138) rfl rfl (by kernel_rfl) (by kernel_rfl) (by kernel_rfl) (fun _ _ _ h => h) (by rfl) (fun w hSw => by (try dsimp only at hSw); go_simp; try rfl) hHeld ?_
            go_frame
            refine takeH (i := 6) (some 139) rfl rfl (by kernel_rfl) (by kernel_rfl) (by kernel_rfl) (fun _ _ _ h => h) (by rfl) (fun w hSw => by (try dsimp only at hSw); go_simp; try rfl) hHeld ?_
            go_frame
            refine takeH (i := 7) (some 140) rfl rfl (by kernel_rfl) (by kernel_rfl) (by kernel_rfl) (fun _ _ _ h => h) (by rfl) (fun w hSw => by (try dsimp only at hSw); go_simp; try rfl) hHeld ?_
            go_frame
            refine takeH (i := 8) (some 141) rfl rfl (by kernel_rfl) (by kernel_rfl) (by kernel_rfl) (fun _ _ _ h => h) (by rfl) (fun w hSw => by (try dsimp only at hSw); go_simp; try rfl) hHeld ?_
            go_frame
            refine takeH (i := 9) (some 142) rfl rfl (by kernel_rfl) (by kernel_rfl) (by kernel_rfl) (fun _ _ _ h => h) (by rfl) (fun w hSw => by (try dsimp only at hSw); have hh := hL8.keep hSw; have h0 := hh.at (i := 0) rfl; have h1 := hh.at (i := 1) rfl; have h2 := hh.at (i := 2) rfl; have h3 := hh.at (i := 3) rfl; go_simp; try rfl) hHeld ?_
            go_frame
            refine takeH (i := 10) (some 143) rfl rfl (by kernel_rfl) (by kernel_rfl) (by kernel_rfl) (fun _ _ _ h => h) (by rfl) (fun w hSw => by (try dsimp only at hSw); have hh := hM8.keep hSw; have h0 := hh.at (i := 0) rfl; have h1 := hh.at (i := 1) rfl; have h2 := hh.at (i := 2) rfl; have h3 := hh.at (i := 3) rfl; go_simp; try rfl) hHeld ?_
            go_frame
            refine takeH (i := 11) (some 144) rfl rfl (by kernel_rfl) (by kernel_rfl) (by kernel_rfl) (fun _ _ _ h => h) (by rfl) (fun w hSw => by (try dsimp only at hSw); have hh := E1; go_simp; try rfl) hHeld ?_
            go_frame
            refine takeH (i := 12) (some 145) rfl rfl (by kernel_rfl) (by kernel_rfl) (by kernel_rfl) (fun _ _ _ h => h) (by rfl) (fun w hSw => by (try dsimp only at hSw); go_simp; try rfl) hHeld ?_
            go_frame
            refine takeH (i := 13) (some 146) rfl rfl (by kernel_rfl) (by kernel_rfl) (by kernel_rfl) (fun _ _ _ h => h) (by rfl) (fun w hSw => by (try dsimp only at hSw); go_simp; try rfl) hHeld ?_
            go_frame
            refine takeH (i := 14) (some 147) rfl rfl (by kernel_rfl) (by kernel_rfl) (by kernel_rfl) (fun _ _ _ h => h) (by rfl) (fun w hSw => by (try dsimp only at hSw); go_simp; try rfl) hHeld ?_
            go_frame
            refine takeH (i := 15) (some 148) rfl rfl (by kernel_rfl) (by kernel_rfl) (by kernel_rfl) (fun _ _ _ h => h) (by rfl) (fun w hSw => by (try dsimp only at hSw); go_simp; try rfl) hHeld ?_
            go_frame
            refine takeH (i := 16) (some 149) rfl rfl (by kernel_rfl) (by kernel_rfl) (by kernel_rfl) (fun _ _ _ h => h) (by rfl) (fun w hSw => by (try dsimp only at hSw); go_simp; try rfl) hHeld ?_
            go_frame
            refine takeH (i := 17) (some 150) rfl rfl (by kernel_rfl) (by kernel_rfl) (by kernel_rfl) (fun _ _ _ h => h) (by rfl) (fun w hSw => by (try dsimp only at hSw); go_simp; try rfl) hHeld ?_
            go_frame
            refine takeH (i := 18) (some 151) rfl rfl (by kernel_rfl) (by kernel_rfl) (by kernel_rfl) (fun _ _ _ h => h) (by rfl) (fun w hSw => by (try dsimp only at hSw); go_simp; try rfl) hHeld ?_
            go_frame
            refine takeH (i := 19) (some 152) rfl rfl (by kernel_rfl) (by kernel_rfl) (by kernel_rfl) (fun _ _ _ h => h) (by rfl) (fun w hSw => by (try dsimp only at hSw); go_simp; try rfl) hHeld ?_
            go_frame
            refine takeH (i := 21) (some 154) rfl rfl (by kernel_rfl) (by kernel_rfl) (by kernel_rfl) (fun _ _ _ h => h) (by rfl) (fun w hSw => by (try dsimp only at hSw); go_simp; try rfl) hHeld ?_
            go_frame
            refine takeH (i := 22) (some 155) rfl rfl (by kernel_rfl) (by kernel_rfl) (by kernel_rfl) (fun _ _ _ h => h) (by rfl) (fun w hSw => by (try dsimp only at hSw); go_simp; try rfl) hHeld ?_
            go_frame
            refine takeH (i := 23) (some 156) rfl rfl (by kernel_rfl) (by kernel_rfl) (by kernel_rfl) (fun _ _ _ h => h) (by rfl) (fun w hSw => by (try dsimp only at hSw); go_simp; try rfl) hHeld ?_
            go_frame
            refine takeH (i := 24) (some 157) rfl rfl (by kernel_rfl) (by kernel_rfl) (by kernel_rfl) (fun _ _ _ h => h) (by rfl) (fun w hSw => by (try dsimp only at hSw); obtain ⟨-, -, -, hh⟩ := hR8.cells _ hSw; go_simp; try rfl) hHeld ?_
            go_frame
            refine wpAnyH_ready (rs := [20]) (by kernel_rfl) (by simp) (AllReadyH.cons rfl (fun K hK => ?_) AllReadyH.nil)
            go_simp
            refine (tage_any _ b _ _ (hW8.keep hHeld)).mono ?_
            rintro e Y0 ⟨rfl, rfl⟩
            show K _ _
            refine hK.out _ _ hHeld (fun hHeld => ?_)
            clear hK K
            refine takeH (i := 25) (some 158) rfl rfl (by kernel_rfl) (by kernel_rfl) (by kernel_rfl) (fun _ _ _ h => h) (by rfl) (fun w hSw => by (try dsimp only at hSw); go_simp; try rfl) hHeld ?_
            go_frame
            refine takeH (i := 26) (some 159) rfl rfl (by kernel_rfl) (by kernel_rfl) (by kernel_rfl) (fun _ _ _ h => h) (by rfl) (fun w hSw => by (try dsimp only at hSw); go_simp; try rfl) hHeld ?_
            go_frame
            refine takeH (i := 27) (some 160) rfl rfl (by kernel_rfl) (by kernel_rfl) (by kernel_rfl) (fun _ _ _ h => h) (by rfl) (fun w hSw => by (try dsimp only at hSw); go_simp; try rfl) hHeld ?_
            go_frame
            refine takeH (i := 28) (some 161) rfl rfl (by kernel_rfl) (by kernel_rfl) (by kernel_rfl) (fun _ _ _ h => h) (by rfl) (fun w hSw => by (try dsimp only at hSw); have hh := hQ8.keep hSw; have h0 := hh.at (i := 0) rfl; have h1 := hh.at (i := 1) rfl; have h2 := hh.at (i := 2) rfl; go_simp; try rfl) hHeld ?_
            go_frame
            refine takeH (i := 29) (some 162) rfl rfl (by kernel_rfl) (by kernel_rfl) (by kernel_rfl) (fun _ _ _ h => h) (by rfl) (fun w hSw => by (try dsimp only at hSw); go_simp; try rfl) hHeld ?_
            go_frame
            refine wpAnyH_ready (rs := [30]) (by kernel_rfl) (by simp) (AllReadyH.cons rfl (fun K hK => ?_) AllReadyH.nil)
            go_simp
            refine (rtwant_any _ d _ _ _ (hR8.keep hHeld)).mono ?_
            rintro e Y1 ⟨⟨q3, c3, q4, c4, rfl, hI3, hI4⟩, y1⟩
            rw [hn1] at hI3 ⊢
            rw [hn2] at hI4 ⊢
            rw [hk0]
            show K _ _
            refine hK.out _ _ (ab_trans hHeld y1) (fun hHeld => ?_)
            clear hK K
            refine wpAnyH_ready (rs := [31]) (by kernel_rfl) (by simp) (AllReadyH.cons rfl (fun K hK => ?_) AllReadyH.nil)
            go_simp
            refine (tsame_any k0 k0 _ _ _ _ (wnO ((sawW S y))) (wnO ((sawW S y))) (wnN ((sawW S y))) (wnN ((sawW S y))) _ (hP1.is.keep hHeld) (hP2.is.keep hHeld) hI3 hI4 (by omega) (by omega) (by omega) (by omega)).mono ?_
            rintro e Y2 ⟨rfl, y2⟩
            rw [show smC k0 k0 (wnO ((sawW S y))) (wnO ((sawW S y))) (wnN ((sawW S y))) (wnN ((sawW S y))) = true from by unfold smC; rw [decide_eq_true rfl, decide_eq_true rfl, decide_eq_true rfl]; rfl]
            show K _ _
            have h8Y := ab_trans hHeld y2
            refine hK.out _ _ h8Y (fun hHeld => ?_)
            clear hK K
            refine takeH (i := 32) (some 165) rfl rfl (by kernel_rfl) (by kernel_rfl) (by kernel_rfl) (fun _ _ _ h => h) (by rfl) (fun w hSw => by (try dsimp only at hSw); go_simp; try rfl) hHeld ?_
            go_frame
            refine takeH (i := 33) (some 166) rfl rfl (by kernel_rfl) (by kernel_rfl) (by kernel_rfl) (fun _ _ _ h => h) (by rfl) (fun w hSw => by (try dsimp only at hSw); go_simp; try rfl) hHeld ?_
            go_frame
            refine wpAnyH_done (by kernel_rfl) ?_ _
            have hQY := hQ8.keep h8Y
            have hOY := hP1.keep h8Y
            have x6Y := ab_trans x68 h8Y
            have y1 : Y2.cell? ⟨X7.heap.size, 1, none⟩ = some (.slice q1 n1 c1) := hQY.at rfl
            clear hHeld hL8 hM8 hW8 hR8 hP1 hP2 hQ8 h8Y x68 ne1 ne2 ne3 ne4 E1 hI3 hI4 y2
            unfold Io at hOY
            rw [hn1] at hOY
            go_upto_region 39 with fail
            go_wp2_with fail
            clear y1
            go_loopw [170] (fun i wr => ∃ (k : Nat) (ys : List Int), k ≤ n1 ∧ i = .int .i64 (k : Int) ∧ wr.ownsRow X6.heap.size 3 1 (.slice q1 n1 c1) n1 (ints ys) ∧ Onl (.slice q1 n1 c1) Y2 wr) (fun i _ => n1 - (intOf i).toNat)
            case atStart => exact ⟨0, _, by omega, rfl, hOY, Onl.refl _ _⟩
            case round =>
              obtain ⟨k, ys, hk, rfl, h, hk1⟩ := hrel
              by_cases ck : k = n1
              · subst ck
                have x6w : Below X6.heap.size X6 wr := x6Y.trans (hk1.below (fun g hg => (World.ownsRow.lt hOY g hg).1))
                have hWz := hW6.keep x6w
                have hRz := hR6.keep x6w
                have hbz := ab_trans hb6 x6w
                clear hW6 hR6 hb6 x6w x6Y h hk1 hOY hQY
                go_wp2_with fail
                exact ⟨⟨j + 1, (sawW S y), by omega, rfl, hWz, hRz, hbz⟩, by simp only [intOf]; omega⟩
              · have hkn : k < n1 := by omega
                have hki : (k : Int) < (n1 : Int) := by omega
                have y1 : wr.cell? ⟨X7.heap.size, 1, none⟩ = some (.slice q1 n1 c1) := (hk1.blk hQY (blk_own hOY hQY (by decide))).at rfl
                obtain ⟨gg, cap', ee, hbb, hgg, hcc, hmm, -⟩ := own_cells h (fun e => by cases e; omega)
                cases ee
                have hys := owns_len h
                have d9 := h.cellAt k (by omega)
                have fz := h.frozenAt k
                obtain ⟨z, hzz⟩ : ∃ z, ys[k]? = some z := ⟨ys[k], List.getElem?_eq_getElem (by omega)⟩
                have hu9 : (ints ys)[k]? = some (.int .i64 z) := by rw [ints_at, hzz]; rfl
                rw [hu9] at d9
                clear hW6 hR6 hb6 x6Y hOY hQY hu9 hzz
                go_wp2_with fail
                have hst := (h.stored k (.int .i64 (-1))).1
                rw [show (ints ys).set k (.int .i64 (-1)) = ints (ys.set k (-1)) from by simp [ints, List.map_set]] at hst
                exact ⟨⟨k + 1, _, by omega, rfl, hst, hk1.set rfl _ _⟩, by simp only [intOf]; omega⟩
        · have hkn : k < ny := by omega
          have hki : (k : Int) < (ny : Int) := by omega
          obtain ⟨gg, cap', ee, hbb, hgg, hcc, hmm, -⟩ := own_cells h (fun e => by cases e)
          cases ee
          have hys := owns_len h
          have d9 := h.cellAt k (by omega)
          have fz := h.frozenAt k
          obtain ⟨z, hzz⟩ : ∃ z, ys[k]? = some z := ⟨ys[k], List.getElem?_eq_getElem (by omega)⟩
          have hu9 : (ints ys)[k]? = some (.int .i64 z) := by rw [ints_at, hzz]; rfl
          rw [hu9] at d9
          clear hW5 hR5 hbw5 hO5 hu9 hzz
          go_wp2_with fail
          have hst := (h.stored k (.int .i64 (-1))).1
          rw [show (ints ys).set k (.int .i64 (-1)) = ints (ys.set k (-1)) from by simp [ints, List.map_set]] at hst
          exact ⟨⟨k + 1, _, by omega, rfl, hst, hk1.set rfl _ _⟩, by simp only [intOf]; omega⟩
    · have z0 : (kd == 0) = false := by simp [k0]
      clear k0 a1
      by_cases m1 : nm < 0
      · go_wp2_with fail
        clear z0 a0 a2 m1
        go_loopw [104] (fun i wr => ∃ (k : Nat) (S' : Wt), k ≤ 0 ∧ i = .int .i64 (k : Int) ∧ Wh wr W1.heap.size b S' ∧ Rh (fun _ => False) wr W1.heap.size d j S' ∧ Below w.heap.size w wr) (fun i _ => 0 - (intOf i).toNat)
        case atStart => exact ⟨0, S, by omega, rfl, hWA, hRA, hbA⟩
        case round =>
          clear hWA hRA hbA
          obtain ⟨k, S', hk, rfl, hWV, hRV, hbV⟩ := hrel
          by_cases ck : k = 0
          · subst ck
            have hRV := Rh.more hRV
            clear hk
            as_aux_lemma =>
              go_wp2_with fail
              refine (tleads_any _ b _ _ hWV).mono ?_
              rintro e X1 ⟨rfl, x1⟩
              go_wp2_with fail
              refine (rtleads_any _ d _ _ _ (hRV.keep x1)).mono ?_
              rintro e X2 ⟨rfl, x2⟩
              have x12 := ab_trans x1 x2
              generalize hn0 : ldN S' = n0
              generalize hb0 : ldB S' = b0
              clear hn0 hb0
              go_wp2_with fail
              refine (tlease_any _ b _ _ (hWV.keep x12)).mono ?_
              rintro e X3 ⟨rfl, x3⟩
              obtain ⟨x, hx⟩ : ∃ x, tkL (S').vl = x := ⟨_, rfl⟩
              obtain ⟨t0, ht0⟩ : ∃ x, isL (S').vl = x := ⟨_, rfl⟩
              rw [hx, ht0]
              obtain ⟨B, hBe, hL, hwL⟩ := blk1 X3 (leC zL) 29
              go_upto_region 35 with (refine st_le rfl rfl (k1 := x) hL rfl rfl ?_; intro X4 hL4 C4)
              have x34 := ab_trans x3 (ab_chg hwL C4 (Nat.le_refl _))
              have x14 := ab_trans x12 x34
              clear hBe hL hwL C4 x3 x34 x12 x1 x2
              go_wp2_with fail
              refine (rtlease_any _ d _ _ _ (hRV.keep x14)).mono ?_
              rintro e X5 ⟨rfl, x5⟩
              rw [hx, ht0]
              clear hx ht0
              have hL5 := hL4.keep x5
              obtain ⟨B2, hBe, hM, hwM⟩ := blk1 X5 (leC zL) 29
              go_upto_region 36 with (refine st_le rfl rfl (k1 := x) hM rfl rfl ?_; intro X6 hM6 C6)
              have x56 := ab_chg hwM C6 (Nat.le_refl _)
              have x16 := ab_trans x14 (ab_trans x5 x56)
              have hL6 := hL5.keep x56
              have hW6 := hWV.keep x16
              have hR6 := hRV.keep x16
              have hb6 := ab_trans hbV x16
              clear hBe hM hwM C6 x5 x56 x14 x16 hL4 hL5 hWV hRV hbV
              go_wp2_with fail
              refine (twant_any _ b _ _ hW6).mono ?_
              rintro e X7 ⟨⟨q1, c1, q2, c2, rfl, hO1, hO2⟩, x7⟩
              obtain ⟨n1, hn1⟩ : ∃ n, (wnO (S')).length = n := ⟨_, rfl⟩
              obtain ⟨n2, hn2⟩ : ∃ n, (wnN (S')).length = n := ⟨_, rfl⟩
              have hn1b : n1 ≤ 100000 := by
                rw [← hn1]
                unfold wnO
                split
                · exact Nat.zero_le _
                · exact hW6.len
              have hn2b : n2 ≤ 100000 := by
                rw [← hn2]
                unfold wnN
                split
                · exact Nat.zero_le _
                · split <;> exact Nat.le_of_lt (show 4 < 100000 by decide)
              rw [hn1] at hO1 ⊢
              rw [hn2] at hO2 ⊢
              obtain ⟨k0, hk0⟩ : ∃ x, wnK (S') = x := ⟨_, rfl⟩
              rw [hk0]
              obtain ⟨B3, hBe, hQ, hwQ⟩ := blk1 X7 (cgC 0 (.slice none 0 0) (.slice none 0 0)) 51
              go_upto_region 37 with (refine st_cg rfl rfl hQ rfl rfl ?_; intro X8 hQ8 C8)
              have x78 := ab_chg hwQ C8 (Nat.le_refl _)
              have x68 := ab_trans x7 x78
              have hL8 := hL6.keep x68
              have hM8 := hM6.keep x68
              have hW8 := hW6.keep x68
              have hR8 := hR6.keep x68
              have hP1 := hO1.keep x78
              have hP2 := hO2.keep x78
              clear hBe hQ hwQ C8 x78 x7 hL6 hM6 hO1 hO2
              have ne1 : (n0 != n0) = false := by simp
              have ne2 : (b0 != b0) = false := by cases b0 <;> rfl
              have ne3 : (t0 != t0) = false := by cases t0 <;> rfl
              have ne4 : ((S').ag != (S').ag) = false := by simp
              have E1 := neLe x
              refine wp_region_held_drew (S := fun w' => Below X8.heap.size X8 w') (by kernel_rfl) (ab_drew (Below.refl _ _)) (fun hHeld => ?_)
              refine takeH (i := 0) (some 133) rfl rfl (by kernel_rfl) (by kernel_rfl) (by kernel_rfl) (fun _ _ _ h => h) (by rfl) (fun w hSw => by (try dsimp only at hSw); go_simp; try rfl) hHeld ?_
              go_frame
              refine takeH (i := 1) (some 134) rfl rfl (by kernel_rfl) (by kernel_rfl) (by kernel_rfl) (fun _ _ _ h => h) (by rfl) (fun w hSw => by (try dsimp only at hSw); go_simp; try rfl) hHeld ?_
              go_frame
              refine takeH (i := 2) (some 135) rfl rfl (by kernel_rfl) (by kernel_rfl) (by kernel_rfl) (fun _ _ _ h => h) (by rfl) (fun w hSw => by (try dsimp only at hSw); go_simp; try rfl) hHeld ?_
              go_frame
              refine takeH (i := 3) (some 136) rfl rfl (by kernel_rfl) (by kernel_rfl) (by kernel_rfl) (fun _ _ _ h => h) (by rfl) (fun w hSw => by (try dsimp only at hSw); go_simp; try rfl) hHeld ?_
              go_frame
              refine takeH (i := 4) (some 137) rfl rfl (by kernel_rfl) (by kernel_rfl) (by kernel_rfl) (fun _ _ _ h => h) (by rfl) (fun w hSw => by (try dsimp only at hSw); go_simp; try rfl) hHeld ?_
              go_frame
              refine takeH (i := 5) (some 138) rfl rfl (by kernel_rfl) (by kernel_rfl) (by kernel_rfl) (fun _ _ _ h => h) (by rfl) (fun w hSw => by (try dsimp only at hSw); go_simp; try rfl) hHeld ?_
              go_frame
              refine takeH (i := 6) (some 139) rfl rfl (by kernel_rfl) (by kernel_rfl) (by kernel_rfl) (fun _ _ _ h => h) (by rfl) (fun w hSw => by (try dsimp only at hSw); go_simp; try rfl) hHeld ?_
              go_frame
              refine takeH (i := 7) (some 140) rfl rfl (by kernel_rfl) (by kernel_rfl) (by kernel_rfl) (fun _ _ _ h => h) (by rfl) (fun w hSw => by (try dsimp only at hSw); go_simp; try rfl) hHeld ?_
              go_frame
              refine takeH (i := 8) (some 141) rfl rfl (by kernel_rfl) (by kernel_rfl) (by kernel_rfl) (fun _ _ _ h => h) (by rfl) (fun w hSw => by (try dsimp only at hSw); go_simp; try rfl) hHeld ?_
              go_frame
              refine takeH (i := 9) (some 142) rfl rfl (by kernel_rfl) (by kernel_rfl) (by kernel_rfl) (fun _ _ _ h => h) (by rfl) (fun w hSw => by (try dsimp only at hSw); have hh := hL8.keep hSw; have h0 := hh.at (i := 0) rfl; have h1 := hh.at (i := 1) rfl; have h2 := hh.at (i := 2) rfl; have h3 := hh.at (i := 3) rfl; go_simp; try rfl) hHeld ?_
              go_frame
              refine takeH (i := 10) (some 143) rfl rfl (by kernel_rfl) (by kernel_rfl) (by kernel_rfl) (fun _ _ _ h => h) (by rfl) (fun w hSw => by (try dsimp only at hSw); have hh := hM8.keep hSw; have h0 := hh.at (i := 0) rfl; have h1 := hh.at (i := 1) rfl; have h2 := hh.at (i := 2) rfl; have h3 := hh.at (i := 3) rfl; go_simp; try rfl) hHeld ?_
              go_frame
              refine takeH (i := 11) (some 144) rfl rfl (by kernel_rfl) (by kernel_rfl) (by kernel_rfl) (fun _ _ _ h => h) (by rfl) (fun w hSw => by (try dsimp only at hSw); have hh := E1; go_simp; try rfl) hHeld ?_
              go_frame
              refine takeH (i := 12) (some 145) rfl rfl (by kernel_rfl) (by kernel_rfl) (by kernel_rfl) (fun _ _ _ h => h) (by rfl) (fun w hSw => by (try dsimp only at hSw); go_simp; try rfl) hHeld ?_
              go_frame
              refine takeH (i := 13) (some 146) rfl rfl (by kernel_rfl) (by kernel_rfl) (by kernel_rfl) (fun _ _ _ h => h) (by rfl) (fun w hSw => by (try dsimp only at hSw); go_simp; try rfl) hHeld ?_
              go_frame
              refine takeH (i := 14) (some 147) rfl rfl (by kernel_rfl) (by kernel_rfl) (by kernel_rfl) (fun _ _ _ h => h) (by rfl) (fun w hSw => by (try dsimp only at hSw); go_simp; try rfl) hHeld ?_
              go_frame
              refine takeH (i := 15) (some 148) rfl rfl (by kernel_rfl) (by kernel_rfl) (by kernel_rfl) (fun _ _ _ h => h) (by rfl) (fun w hSw => by (try dsimp only at hSw); go_simp; try rfl) hHeld ?_
              go_frame
              refine takeH (i := 16) (some 149) rfl rfl (by kernel_rfl) (by kernel_rfl) (by kernel_rfl) (fun _ _ _ h => h) (by rfl) (fun w hSw => by (try dsimp only at hSw); go_simp; try rfl) hHeld ?_
              go_frame
              refine takeH (i := 17) (some 150) rfl rfl (by kernel_rfl) (by kernel_rfl) (by kernel_rfl) (fun _ _ _ h => h) (by rfl) (fun w hSw => by (try dsimp only at hSw); go_simp; try rfl) hHeld ?_
              go_frame
              refine takeH (i := 18) (some 151) rfl rfl (by kernel_rfl) (by kernel_rfl) (by kernel_rfl) (fun _ _ _ h => h) (by rfl) (fun w hSw => by (try dsimp only at hSw); go_simp; try rfl) hHeld ?_
              go_frame
              refine takeH (i := 19) (some 152) rfl rfl (by kernel_rfl) (by kernel_rfl) (by kernel_rfl) (fun _ _ _ h => h) (by rfl) (fun w hSw => by (try dsimp only at hSw); go_simp; try rfl) hHeld ?_
              go_frame
              refine takeH (i := 21) (some 154) rfl rfl (by kernel_rfl) (by kernel_rfl) (by kernel_rfl) (fun _ _ _ h => h) (by rfl) (fun w hSw => by (try dsimp only at hSw); go_simp; try rfl) hHeld ?_
              go_frame
              refine takeH (i := 22) (some 155) rfl rfl (by kernel_rfl) (by kernel_rfl) (by kernel_rfl) (fun _ _ _ h => h) (by rfl) (fun w hSw => by (try dsimp only at hSw); go_simp; try rfl) hHeld ?_
              go_frame
              refine takeH (i := 23) (some 156) rfl rfl (by kernel_rfl) (by kernel_rfl) (by kernel_rfl) (fun _ _ _ h => h) (by rfl) (fun w hSw => by (try dsimp only at hSw); go_simp; try rfl) hHeld ?_
              go_frame
              refine takeH (i := 24) (some 157) rfl rfl (by kernel_rfl) (by kernel_rfl) (by kernel_rfl) (fun _ _ _ h => h) (by rfl) (fun w hSw => by (try dsimp only at hSw); obtain ⟨-, -, -, hh⟩ := hR8.cells _ hSw; go_simp; try rfl) hHeld ?_
              go_frame
              refine wpAnyH_ready (rs := [20]) (by kernel_rfl) (by simp) (AllReadyH.cons rfl (fun K hK => ?_) AllReadyH.nil)
              go_simp
              refine (tage_any _ b _ _ (hW8.keep hHeld)).mono ?_
              rintro e Y0 ⟨rfl, rfl⟩
              show K _ _
              refine hK.out _ _ hHeld (fun hHeld => ?_)
              clear hK K
              refine takeH (i := 25) (some 158) rfl rfl (by kernel_rfl) (by kernel_rfl) (by kernel_rfl) (fun _ _ _ h => h) (by rfl) (fun w hSw => by (try dsimp only at hSw); go_simp; try rfl) hHeld ?_
              go_frame
              refine takeH (i := 26) (some 159) rfl rfl (by kernel_rfl) (by kernel_rfl) (by kernel_rfl) (fun _ _ _ h => h) (by rfl) (fun w hSw => by (try dsimp only at hSw); go_simp; try rfl) hHeld ?_
              go_frame
              refine takeH (i := 27) (some 160) rfl rfl (by kernel_rfl) (by kernel_rfl) (by kernel_rfl) (fun _ _ _ h => h) (by rfl) (fun w hSw => by (try dsimp only at hSw); go_simp; try rfl) hHeld ?_
              go_frame
              refine takeH (i := 28) (some 161) rfl rfl (by kernel_rfl) (by kernel_rfl) (by kernel_rfl) (fun _ _ _ h => h) (by rfl) (fun w hSw => by (try dsimp only at hSw); have hh := hQ8.keep hSw; have h0 := hh.at (i := 0) rfl; have h1 := hh.at (i := 1) rfl; have h2 := hh.at (i := 2) rfl; go_simp; try rfl) hHeld ?_
              go_frame
              refine takeH (i := 29) (some 162) rfl rfl (by kernel_rfl) (by kernel_rfl) (by kernel_rfl) (fun _ _ _ h => h) (by rfl) (fun w hSw => by (try dsimp only at hSw); go_simp; try rfl) hHeld ?_
              go_frame
              refine wpAnyH_ready (rs := [30]) (by kernel_rfl) (by simp) (AllReadyH.cons rfl (fun K hK => ?_) AllReadyH.nil)
              go_simp
              refine (rtwant_any _ d _ _ _ (hR8.keep hHeld)).mono ?_
              rintro e Y1 ⟨⟨q3, c3, q4, c4, rfl, hI3, hI4⟩, y1⟩
              rw [hn1] at hI3 ⊢
              rw [hn2] at hI4 ⊢
              rw [hk0]
              show K _ _
              refine hK.out _ _ (ab_trans hHeld y1) (fun hHeld => ?_)
              clear hK K
              refine wpAnyH_ready (rs := [31]) (by kernel_rfl) (by simp) (AllReadyH.cons rfl (fun K hK => ?_) AllReadyH.nil)
              go_simp
              refine (tsame_any k0 k0 _ _ _ _ (wnO (S')) (wnO (S')) (wnN (S')) (wnN (S')) _ (hP1.is.keep hHeld) (hP2.is.keep hHeld) hI3 hI4 (by omega) (by omega) (by omega) (by omega)).mono ?_
              rintro e Y2 ⟨rfl, y2⟩
              rw [show smC k0 k0 (wnO (S')) (wnO (S')) (wnN (S')) (wnN (S')) = true from by unfold smC; rw [decide_eq_true rfl, decide_eq_true rfl, decide_eq_true rfl]; rfl]
              show K _ _
              have h8Y := ab_trans hHeld y2
              refine hK.out _ _ h8Y (fun hHeld => ?_)
              clear hK K
              refine takeH (i := 32) (some 165) rfl rfl (by kernel_rfl) (by kernel_rfl) (by kernel_rfl) (fun _ _ _ h => h) (by rfl) (fun w hSw => by (try dsimp only at hSw); go_simp; try rfl) hHeld ?_
              go_frame
              refine takeH (i := 33) (some 166) rfl rfl (by kernel_rfl) (by kernel_rfl) (by kernel_rfl) (fun _ _ _ h => h) (by rfl) (fun w hSw => by (try dsimp only at hSw); go_simp; try rfl) hHeld ?_
              go_frame
              refine wpAnyH_done (by kernel_rfl) ?_ _
              have hQY := hQ8.keep h8Y
              have hOY := hP1.keep h8Y
              have x6Y := ab_trans x68 h8Y
              have y1 : Y2.cell? ⟨X7.heap.size, 1, none⟩ = some (.slice q1 n1 c1) := hQY.at rfl
              clear hHeld hL8 hM8 hW8 hR8 hP1 hP2 hQ8 h8Y x68 ne1 ne2 ne3 ne4 E1 hI3 hI4 y2
              unfold Io at hOY
              rw [hn1] at hOY
              go_upto_region 39 with fail
              go_wp2_with fail
              clear y1
              go_loopw [170] (fun i wr => ∃ (k : Nat) (ys : List Int), k ≤ n1 ∧ i = .int .i64 (k : Int) ∧ wr.ownsRow X6.heap.size 3 1 (.slice q1 n1 c1) n1 (ints ys) ∧ Onl (.slice q1 n1 c1) Y2 wr) (fun i _ => n1 - (intOf i).toNat)
              case atStart => exact ⟨0, _, by omega, rfl, hOY, Onl.refl _ _⟩
              case round =>
                obtain ⟨k, ys, hk, rfl, h, hk1⟩ := hrel
                by_cases ck : k = n1
                · subst ck
                  have x6w : Below X6.heap.size X6 wr := x6Y.trans (hk1.below (fun g hg => (World.ownsRow.lt hOY g hg).1))
                  have hWz := hW6.keep x6w
                  have hRz := hR6.keep x6w
                  have hbz := ab_trans hb6 x6w
                  clear hW6 hR6 hb6 x6w x6Y h hk1 hOY hQY
                  go_wp2_with fail
                  exact ⟨⟨j + 1, S', by omega, rfl, hWz, hRz, hbz⟩, by simp only [intOf]; omega⟩
                · have hkn : k < n1 := by omega
                  have hki : (k : Int) < (n1 : Int) := by omega
                  have y1 : wr.cell? ⟨X7.heap.size, 1, none⟩ = some (.slice q1 n1 c1) := (hk1.blk hQY (blk_own hOY hQY (by decide))).at rfl
                  obtain ⟨gg, cap', ee, hbb, hgg, hcc, hmm, -⟩ := own_cells h (fun e => by cases e; omega)
                  cases ee
                  have hys := owns_len h
                  have d9 := h.cellAt k (by omega)
                  have fz := h.frozenAt k
                  obtain ⟨z, hzz⟩ : ∃ z, ys[k]? = some z := ⟨ys[k], List.getElem?_eq_getElem (by omega)⟩
                  have hu9 : (ints ys)[k]? = some (.int .i64 z) := by rw [ints_at, hzz]; rfl
                  rw [hu9] at d9
                  clear hW6 hR6 hb6 x6Y hOY hQY hu9 hzz
                  go_wp2_with fail
                  have hst := (h.stored k (.int .i64 (-1))).1
                  rw [show (ints ys).set k (.int .i64 (-1)) = ints (ys.set k (-1)) from by simp [ints, List.map_set]] at hst
                  exact ⟨⟨k + 1, _, by omega, rfl, hst, hk1.set rfl _ _⟩, by simp only [intOf]; omega⟩
          · have hki : (k : Int) < 0 := by omega
            go_wp2_with fail
            refine (ttick_any _ b _ _ hWV).mono ?_
            rintro e V1 ⟨rfl, hWx, C1⟩
            have hkb := hWV.kind
            have hRx := hRV.frm (frm_chg (X := fun x => x = b) C1 rfl) (fun k hk h9 => by subst hk; exact absurd (hkb.uniq h9) (by decide)) (fun k hk h9 => by subst hk; exact absurd (hkb.uniq h9) (by decide)) (fun k hk h9 => by subst hk; exact absurd (hkb.uniq h9) (by decide))
            have hbx : Below w.heap.size w V1 := hbV.trans ((C1.below hWV.ge).mono hs1)
            clear hWV hRV hbV hkb C1
            go_wp2_with fail
            refine (rttick_any _ d _ _ _ hRx).mono ?_
            rintro e V2 ⟨rfl, hRy, C2⟩
            have hkd := hRx.kind
            have hWy := hWx.frm (frm_chg (X := fun x => x = d) C2 rfl) (fun e => by have h9 := hWx.kind; rw [e] at h9; exact absurd (hkd.uniq h9) (by decide)) (fun x hx h9 => by subst hx; exact absurd (hkd.uniq h9) (by decide))
            have hby : Below w.heap.size w V2 := hbx.trans ((C2.below hRx.ge).mono hs1)
            clear hWx hRx hbx hkd C2
            go_wp2_with fail
            exact ⟨⟨k + 1, _, by omega, rfl, hWy, hRy, hby⟩, by simp only [intOf]; omega⟩
      obtain ⟨n9, rfl⟩ := Int.eq_ofNat_of_zero_le (show 0 ≤ nm by omega)
      by_cases m2 : 1100 < n9
      · have m3 : (1100 : Int) < (n9 : Int) := by omega
        have m4 : ¬ (n9 : Int) ≤ 1100 := by omega
        go_wp2_with fail
        clear z0 a0 a2 m3 m4 m2
        go_loopw [104] (fun i wr => ∃ (k : Nat) (S' : Wt), k ≤ 1100 ∧ i = .int .i64 (k : Int) ∧ Wh wr W1.heap.size b S' ∧ Rh (fun _ => False) wr W1.heap.size d j S' ∧ Below w.heap.size w wr) (fun i _ => 1100 - (intOf i).toNat)
        case atStart => exact ⟨0, S, by omega, rfl, hWA, hRA, hbA⟩
        case round =>
          clear hWA hRA hbA
          obtain ⟨k, S', hk, rfl, hWV, hRV, hbV⟩ := hrel
          by_cases ck : k = 1100
          · subst ck
            have hRV := Rh.more hRV
            clear hk
            as_aux_lemma =>
              go_wp2_with fail
              refine (tleads_any _ b _ _ hWV).mono ?_
              rintro e X1 ⟨rfl, x1⟩
              go_wp2_with fail
              refine (rtleads_any _ d _ _ _ (hRV.keep x1)).mono ?_
              rintro e X2 ⟨rfl, x2⟩
              have x12 := ab_trans x1 x2
              generalize hn0 : ldN S' = n0
              generalize hb0 : ldB S' = b0
              clear hn0 hb0
              go_wp2_with fail
              refine (tlease_any _ b _ _ (hWV.keep x12)).mono ?_
              rintro e X3 ⟨rfl, x3⟩
              obtain ⟨x, hx⟩ : ∃ x, tkL (S').vl = x := ⟨_, rfl⟩
              obtain ⟨t0, ht0⟩ : ∃ x, isL (S').vl = x := ⟨_, rfl⟩
              rw [hx, ht0]
              obtain ⟨B, hBe, hL, hwL⟩ := blk1 X3 (leC zL) 29
              go_upto_region 35 with (refine st_le rfl rfl (k1 := x) hL rfl rfl ?_; intro X4 hL4 C4)
              have x34 := ab_trans x3 (ab_chg hwL C4 (Nat.le_refl _))
              have x14 := ab_trans x12 x34
              clear hBe hL hwL C4 x3 x34 x12 x1 x2
              go_wp2_with fail
              refine (rtlease_any _ d _ _ _ (hRV.keep x14)).mono ?_
              rintro e X5 ⟨rfl, x5⟩
              rw [hx, ht0]
              clear hx ht0
              have hL5 := hL4.keep x5
              obtain ⟨B2, hBe, hM, hwM⟩ := blk1 X5 (leC zL) 29
              go_upto_region 36 with (refine st_le rfl rfl (k1 := x) hM rfl rfl ?_; intro X6 hM6 C6)
              have x56 := ab_chg hwM C6 (Nat.le_refl _)
              have x16 := ab_trans x14 (ab_trans x5 x56)
              have hL6 := hL5.keep x56
              have hW6 := hWV.keep x16
              have hR6 := hRV.keep x16
              have hb6 := ab_trans hbV x16
              clear hBe hM hwM C6 x5 x56 x14 x16 hL4 hL5 hWV hRV hbV
              go_wp2_with fail
              refine (twant_any _ b _ _ hW6).mono ?_
              rintro e X7 ⟨⟨q1, c1, q2, c2, rfl, hO1, hO2⟩, x7⟩
              obtain ⟨n1, hn1⟩ : ∃ n, (wnO (S')).length = n := ⟨_, rfl⟩
              obtain ⟨n2, hn2⟩ : ∃ n, (wnN (S')).length = n := ⟨_, rfl⟩
              have hn1b : n1 ≤ 100000 := by
                rw [← hn1]
                unfold wnO
                split
                · exact Nat.zero_le _
                · exact hW6.len
              have hn2b : n2 ≤ 100000 := by
                rw [← hn2]
                unfold wnN
                split
                · exact Nat.zero_le _
                · split <;> exact Nat.le_of_lt (show 4 < 100000 by decide)
              rw [hn1] at hO1 ⊢
              rw [hn2] at hO2 ⊢
              obtain ⟨k0, hk0⟩ : ∃ x, wnK (S') = x := ⟨_, rfl⟩
              rw [hk0]
              obtain ⟨B3, hBe, hQ, hwQ⟩ := blk1 X7 (cgC 0 (.slice none 0 0) (.slice none 0 0)) 51
              go_upto_region 37 with (refine st_cg rfl rfl hQ rfl rfl ?_; intro X8 hQ8 C8)
              have x78 := ab_chg hwQ C8 (Nat.le_refl _)
              have x68 := ab_trans x7 x78
              have hL8 := hL6.keep x68
              have hM8 := hM6.keep x68
              have hW8 := hW6.keep x68
              have hR8 := hR6.keep x68
              have hP1 := hO1.keep x78
              have hP2 := hO2.keep x78
              clear hBe hQ hwQ C8 x78 x7 hL6 hM6 hO1 hO2
              have ne1 : (n0 != n0) = false := by simp
              have ne2 : (b0 != b0) = false := by cases b0 <;> rfl
              have ne3 : (t0 != t0) = false := by cases t0 <;> rfl
              have ne4 : ((S').ag != (S').ag) = false := by simp
              have E1 := neLe x
              refine wp_region_held_drew (S := fun w' => Below X8.heap.size X8 w') (by kernel_rfl) (ab_drew (Below.refl _ _)) (fun hHeld => ?_)
              refine takeH (i := 0) (some 133) rfl rfl (by kernel_rfl) (by kernel_rfl) (by kernel_rfl) (fun _ _ _ h => h) (by rfl) (fun w hSw => by (try dsimp only at hSw); go_simp; try rfl) hHeld ?_
              go_frame
              refine takeH (i := 1) (some 134) rfl rfl (by kernel_rfl) (by kernel_rfl) (by kernel_rfl) (fun _ _ _ h => h) (by rfl) (fun w hSw => by (try dsimp only at hSw); go_simp; try rfl) hHeld ?_
              go_frame
              refine takeH (i := 2) (some 135) rfl rfl (by kernel_rfl) (by kernel_rfl) (by kernel_rfl) (fun _ _ _ h => h) (by rfl) (fun w hSw => by (try dsimp only at hSw); go_simp; try rfl) hHeld ?_
              go_frame
              refine takeH (i := 3) (some 136) rfl rfl (by kernel_rfl) (by kernel_rfl) (by kernel_rfl) (fun _ _ _ h => h) (by rfl) (fun w hSw => by (try dsimp only at hSw); go_simp; try rfl) hHeld ?_
              go_frame
              refine takeH (i := 4) (some 137) rfl rfl (by kernel_rfl) (by kernel_rfl) (by kernel_rfl) (fun _ _ _ h => h) (by rfl) (fun w hSw => by (try dsimp only at hSw); go_simp; try rfl) hHeld ?_
              go_frame
              refine takeH (i := 5) (some 138) rfl rfl (by kernel_rfl) (by kernel_rfl) (by kernel_rfl) (fun _ _ _ h => h) (by rfl) (fun w hSw => by (try dsimp only at hSw); go_simp; try rfl) hHeld ?_
              go_frame
              refine takeH (i := 6) (some 139) rfl rfl (by kernel_rfl) (by kernel_rfl) (by kernel_rfl) (fun _ _ _ h => h) (by rfl) (fun w hSw => by (try dsimp only at hSw); go_simp; try rfl) hHeld ?_
              go_frame
              refine takeH (i := 7) (some 140) rfl rfl (by kernel_rfl) (by kernel_rfl) (by kernel_rfl) (fun _ _ _ h => h) (by rfl) (fun w hSw => by (try dsimp only at hSw); go_simp; try rfl) hHeld ?_
              go_frame
              refine takeH (i := 8) (some 141) rfl rfl (by kernel_rfl) (by kernel_rfl) (by kernel_rfl) (fun _ _ _ h => h) (by rfl) (fun w hSw => by (try dsimp only at hSw); go_simp; try rfl) hHeld ?_
              go_frame
              refine takeH (i := 9) (some 142) rfl rfl (by kernel_rfl) (by kernel_rfl) (by kernel_rfl) (fun _ _ _ h => h) (by rfl) (fun w hSw => by (try dsimp only at hSw); have hh := hL8.keep hSw; have h0 := hh.at (i := 0) rfl; have h1 := hh.at (i := 1) rfl; have h2 := hh.at (i := 2) rfl; have h3 := hh.at (i := 3) rfl; go_simp; try rfl) hHeld ?_
              go_frame
              refine takeH (i := 10) (some 143) rfl rfl (by kernel_rfl) (by kernel_rfl) (by kernel_rfl) (fun _ _ _ h => h) (by rfl) (fun w hSw => by (try dsimp only at hSw); have hh := hM8.keep hSw; have h0 := hh.at (i := 0) rfl; have h1 := hh.at (i := 1) rfl; have h2 := hh.at (i := 2) rfl; have h3 := hh.at (i := 3) rfl; go_simp; try rfl) hHeld ?_
              go_frame
              refine takeH (i := 11) (some 144) rfl rfl (by kernel_rfl) (by kernel_rfl) (by kernel_rfl) (fun _ _ _ h => h) (by rfl) (fun w hSw => by (try dsimp only at hSw); have hh := E1; go_simp; try rfl) hHeld ?_
              go_frame
              refine takeH (i := 12) (some 145) rfl rfl (by kernel_rfl) (by kernel_rfl) (by kernel_rfl) (fun _ _ _ h => h) (by rfl) (fun w hSw => by (try dsimp only at hSw); go_simp; try rfl) hHeld ?_
              go_frame
              refine takeH (i := 13) (some 146) rfl rfl (by kernel_rfl) (by kernel_rfl) (by kernel_rfl) (fun _ _ _ h => h) (by rfl) (fun w hSw => by (try dsimp only at hSw); go_simp; try rfl) hHeld ?_
              go_frame
              refine takeH (i := 14) (some 147) rfl rfl (by kernel_rfl) (by kernel_rfl) (by kernel_rfl) (fun _ _ _ h => h) (by rfl) (fun w hSw => by (try dsimp only at hSw); go_simp; try rfl) hHeld ?_
              go_frame
              refine takeH (i := 15) (some 148) rfl rfl (by kernel_rfl) (by kernel_rfl) (by kernel_rfl) (fun _ _ _ h => h) (by rfl) (fun w hSw => by (try dsimp only at hSw); go_simp; try rfl) hHeld ?_
              go_frame
              refine takeH (i := 16) (some 149) rfl rfl (by kernel_rfl) (by kernel_rfl) (by kernel_rfl) (fun _ _ _ h => h) (by rfl) (fun w hSw => by (try dsimp only at hSw); go_simp; try rfl) hHeld ?_
              go_frame
              refine takeH (i := 17) (some 150) rfl rfl (by kernel_rfl) (by kernel_rfl) (by kernel_rfl) (fun _ _ _ h => h) (by rfl) (fun w hSw => by (try dsimp only at hSw); go_simp; try rfl) hHeld ?_
              go_frame
              refine takeH (i := 18) (some 151) rfl rfl (by kernel_rfl) (by kernel_rfl) (by kernel_rfl) (fun _ _ _ h => h) (by rfl) (fun w hSw => by (try dsimp only at hSw); go_simp; try rfl) hHeld ?_
              go_frame
              refine takeH (i := 19) (some 152) rfl rfl (by kernel_rfl) (by kernel_rfl) (by kernel_rfl) (fun _ _ _ h => h) (by rfl) (fun w hSw => by (try dsimp only at hSw); go_simp; try rfl) hHeld ?_
              go_frame
              refine takeH (i := 21) (some 154) rfl rfl (by kernel_rfl) (by kernel_rfl) (by kernel_rfl) (fun _ _ _ h => h) (by rfl) (fun w hSw => by (try dsimp only at hSw); go_simp; try rfl) hHeld ?_
              go_frame
              refine takeH (i := 22) (some 155) rfl rfl (by kernel_rfl) (by kernel_rfl) (by kernel_rfl) (fun _ _ _ h => h) (by rfl) (fun w hSw => by (try dsimp only at hSw); go_simp; try rfl) hHeld ?_
              go_frame
              refine takeH (i := 23) (some 156) rfl rfl (by kernel_rfl) (by kernel_rfl) (by kernel_rfl) (fun _ _ _ h => h) (by rfl) (fun w hSw => by (try dsimp only at hSw); go_simp; try rfl) hHeld ?_
              go_frame
              refine takeH (i := 24) (some 157) rfl rfl (by kernel_rfl) (by kernel_rfl) (by kernel_rfl) (fun _ _ _ h => h) (by rfl) (fun w hSw => by (try dsimp only at hSw); obtain ⟨-, -, -, hh⟩ := hR8.cells _ hSw; go_simp; try rfl) hHeld ?_
              go_frame
              refine wpAnyH_ready (rs := [20]) (by kernel_rfl) (by simp) (AllReadyH.cons rfl (fun K hK => ?_) AllReadyH.nil)
              go_simp
              refine (tage_any _ b _ _ (hW8.keep hHeld)).mono ?_
              rintro e Y0 ⟨rfl, rfl⟩
              show K _ _
              refine hK.out _ _ hHeld (fun hHeld => ?_)
              clear hK K
              refine takeH (i := 25) (some 158) rfl rfl (by kernel_rfl) (by kernel_rfl) (by kernel_rfl) (fun _ _ _ h => h) (by rfl) (fun w hSw => by (try dsimp only at hSw); go_simp; try rfl) hHeld ?_
              go_frame
              refine takeH (i := 26) (some 159) rfl rfl (by kernel_rfl) (by kernel_rfl) (by kernel_rfl) (fun _ _ _ h => h) (by rfl) (fun w hSw => by (try dsimp only at hSw); go_simp; try rfl) hHeld ?_
              go_frame
              refine takeH (i := 27) (some 160) rfl rfl (by kernel_rfl) (by kernel_rfl) (by kernel_rfl) (fun _ _ _ h => h) (by rfl) (fun w hSw => by (try dsimp only at hSw); go_simp; try rfl) hHeld ?_
              go_frame
              refine takeH (i := 28) (some 161) rfl rfl (by kernel_rfl) (by kernel_rfl) (by kernel_rfl) (fun _ _ _ h => h) (by rfl) (fun w hSw => by (try dsimp only at hSw); have hh := hQ8.keep hSw; have h0 := hh.at (i := 0) rfl; have h1 := hh.at (i := 1) rfl; have h2 := hh.at (i := 2) rfl; go_simp; try rfl) hHeld ?_
              go_frame
              refine takeH (i := 29) (some 162) rfl rfl (by kernel_rfl) (by kernel_rfl) (by kernel_rfl) (fun _ _ _ h => h) (by rfl) (fun w hSw => by (try dsimp only at hSw); go_simp; try rfl) hHeld ?_
              go_frame
              refine wpAnyH_ready (rs := [30]) (by kernel_rfl) (by simp) (AllReadyH.cons rfl (fun K hK => ?_) AllReadyH.nil)
              go_simp
              refine (rtwant_any _ d _ _ _ (hR8.keep hHeld)).mono ?_
              rintro e Y1 ⟨⟨q3, c3, q4, c4, rfl, hI3, hI4⟩, y1⟩
              rw [hn1] at hI3 ⊢
              rw [hn2] at hI4 ⊢
              rw [hk0]
              show K _ _
              refine hK.out _ _ (ab_trans hHeld y1) (fun hHeld => ?_)
              clear hK K
              refine wpAnyH_ready (rs := [31]) (by kernel_rfl) (by simp) (AllReadyH.cons rfl (fun K hK => ?_) AllReadyH.nil)
              go_simp
              refine (tsame_any k0 k0 _ _ _ _ (wnO (S')) (wnO (S')) (wnN (S')) (wnN (S')) _ (hP1.is.keep hHeld) (hP2.is.keep hHeld) hI3 hI4 (by omega) (by omega) (by omega) (by omega)).mono ?_
              rintro e Y2 ⟨rfl, y2⟩
              rw [show smC k0 k0 (wnO (S')) (wnO (S')) (wnN (S')) (wnN (S')) = true from by unfold smC; rw [decide_eq_true rfl, decide_eq_true rfl, decide_eq_true rfl]; rfl]
              show K _ _
              have h8Y := ab_trans hHeld y2
              refine hK.out _ _ h8Y (fun hHeld => ?_)
              clear hK K
              refine takeH (i := 32) (some 165) rfl rfl (by kernel_rfl) (by kernel_rfl) (by kernel_rfl) (fun _ _ _ h => h) (by rfl) (fun w hSw => by (try dsimp only at hSw); go_simp; try rfl) hHeld ?_
              go_frame
              refine takeH (i := 33) (some 166) rfl rfl (by kernel_rfl) (by kernel_rfl) (by kernel_rfl) (fun _ _ _ h => h) (by rfl) (fun w hSw => by (try dsimp only at hSw); go_simp; try rfl) hHeld ?_
              go_frame
              refine wpAnyH_done (by kernel_rfl) ?_ _
              have hQY := hQ8.keep h8Y
              have hOY := hP1.keep h8Y
              have x6Y := ab_trans x68 h8Y
              have y1 : Y2.cell? ⟨X7.heap.size, 1, none⟩ = some (.slice q1 n1 c1) := hQY.at rfl
              clear hHeld hL8 hM8 hW8 hR8 hP1 hP2 hQ8 h8Y x68 ne1 ne2 ne3 ne4 E1 hI3 hI4 y2
              unfold Io at hOY
              rw [hn1] at hOY
              go_upto_region 39 with fail
              go_wp2_with fail
              clear y1
              go_loopw [170] (fun i wr => ∃ (k : Nat) (ys : List Int), k ≤ n1 ∧ i = .int .i64 (k : Int) ∧ wr.ownsRow X6.heap.size 3 1 (.slice q1 n1 c1) n1 (ints ys) ∧ Onl (.slice q1 n1 c1) Y2 wr) (fun i _ => n1 - (intOf i).toNat)
              case atStart => exact ⟨0, _, by omega, rfl, hOY, Onl.refl _ _⟩
              case round =>
                obtain ⟨k, ys, hk, rfl, h, hk1⟩ := hrel
                by_cases ck : k = n1
                · subst ck
                  have x6w : Below X6.heap.size X6 wr := x6Y.trans (hk1.below (fun g hg => (World.ownsRow.lt hOY g hg).1))
                  have hWz := hW6.keep x6w
                  have hRz := hR6.keep x6w
                  have hbz := ab_trans hb6 x6w
                  clear hW6 hR6 hb6 x6w x6Y h hk1 hOY hQY
                  go_wp2_with fail
                  exact ⟨⟨j + 1, S', by omega, rfl, hWz, hRz, hbz⟩, by simp only [intOf]; omega⟩
                · have hkn : k < n1 := by omega
                  have hki : (k : Int) < (n1 : Int) := by omega
                  have y1 : wr.cell? ⟨X7.heap.size, 1, none⟩ = some (.slice q1 n1 c1) := (hk1.blk hQY (blk_own hOY hQY (by decide))).at rfl
                  obtain ⟨gg, cap', ee, hbb, hgg, hcc, hmm, -⟩ := own_cells h (fun e => by cases e; omega)
                  cases ee
                  have hys := owns_len h
                  have d9 := h.cellAt k (by omega)
                  have fz := h.frozenAt k
                  obtain ⟨z, hzz⟩ : ∃ z, ys[k]? = some z := ⟨ys[k], List.getElem?_eq_getElem (by omega)⟩
                  have hu9 : (ints ys)[k]? = some (.int .i64 z) := by rw [ints_at, hzz]; rfl
                  rw [hu9] at d9
                  clear hW6 hR6 hb6 x6Y hOY hQY hu9 hzz
                  go_wp2_with fail
                  have hst := (h.stored k (.int .i64 (-1))).1
                  rw [show (ints ys).set k (.int .i64 (-1)) = ints (ys.set k (-1)) from by simp [ints, List.map_set]] at hst
                  exact ⟨⟨k + 1, _, by omega, rfl, hst, hk1.set rfl _ _⟩, by simp only [intOf]; omega⟩
          · have hki : (k : Int) < 1100 := by omega
            go_wp2_with fail
            refine (ttick_any _ b _ _ hWV).mono ?_
            rintro e V1 ⟨rfl, hWx, C1⟩
            have hkb := hWV.kind
            have hRx := hRV.frm (frm_chg (X := fun x => x = b) C1 rfl) (fun k hk h9 => by subst hk; exact absurd (hkb.uniq h9) (by decide)) (fun k hk h9 => by subst hk; exact absurd (hkb.uniq h9) (by decide)) (fun k hk h9 => by subst hk; exact absurd (hkb.uniq h9) (by decide))
            have hbx : Below w.heap.size w V1 := hbV.trans ((C1.below hWV.ge).mono hs1)
            clear hWV hRV hbV hkb C1
            go_wp2_with fail
            refine (rttick_any _ d _ _ _ hRx).mono ?_
            rintro e V2 ⟨rfl, hRy, C2⟩
            have hkd := hRx.kind
            have hWy := hWx.frm (frm_chg (X := fun x => x = d) C2 rfl) (fun e => by have h9 := hWx.kind; rw [e] at h9; exact absurd (hkd.uniq h9) (by decide)) (fun x hx h9 => by subst hx; exact absurd (hkd.uniq h9) (by decide))
            have hby : Below w.heap.size w V2 := hbx.trans ((C2.below hRx.ge).mono hs1)
            clear hWx hRx hbx hkd C2
            go_wp2_with fail
            exact ⟨⟨k + 1, _, by omega, rfl, hWy, hRy, hby⟩, by simp only [intOf]; omega⟩
      have m3 : (n9 : Int) ≤ 1100 := by omega
      go_wp2_with fail
      clear z0 a0 a2 m3
      go_loopw [104] (fun i wr => ∃ (k : Nat) (S' : Wt), k ≤ n9 ∧ i = .int .i64 (k : Int) ∧ Wh wr W1.heap.size b S' ∧ Rh (fun _ => False) wr W1.heap.size d j S' ∧ Below w.heap.size w wr) (fun i _ => n9 - (intOf i).toNat)
      case atStart => exact ⟨0, S, by omega, rfl, hWA, hRA, hbA⟩
      case round =>
        clear hWA hRA hbA
        obtain ⟨k, S', hk, rfl, hWV, hRV, hbV⟩ := hrel
        by_cases ck : k = n9
        · subst ck
          have hRV := Rh.more hRV
          clear hk
          as_aux_lemma =>
            go_wp2_with fail
            refine (tleads_any _ b _ _ hWV).mono ?_
            rintro e X1 ⟨rfl, x1⟩
            go_wp2_with fail
            refine (rtleads_any _ d _ _ _ (hRV.keep x1)).mono ?_
            rintro e X2 ⟨rfl, x2⟩
            have x12 := ab_trans x1 x2
            generalize hn0 : ldN S' = n0
            generalize hb0 : ldB S' = b0
            clear hn0 hb0
            go_wp2_with fail
            refine (tlease_any _ b _ _ (hWV.keep x12)).mono ?_
            rintro e X3 ⟨rfl, x3⟩
            obtain ⟨x, hx⟩ : ∃ x, tkL (S').vl = x := ⟨_, rfl⟩
            obtain ⟨t0, ht0⟩ : ∃ x, isL (S').vl = x := ⟨_, rfl⟩
            rw [hx, ht0]
            obtain ⟨B, hBe, hL, hwL⟩ := blk1 X3 (leC zL) 29
            go_upto_region 35 with (refine st_le rfl rfl (k1 := x) hL rfl rfl ?_; intro X4 hL4 C4)
            have x34 := ab_trans x3 (ab_chg hwL C4 (Nat.le_refl _))
            have x14 := ab_trans x12 x34
            clear hBe hL hwL C4 x3 x34 x12 x1 x2
            go_wp2_with fail
            refine (rtlease_any _ d _ _ _ (hRV.keep x14)).mono ?_
            rintro e X5 ⟨rfl, x5⟩
            rw [hx, ht0]
            clear hx ht0
            have hL5 := hL4.keep x5
            obtain ⟨B2, hBe, hM, hwM⟩ := blk1 X5 (leC zL) 29
            go_upto_region 36 with (refine st_le rfl rfl (k1 := x) hM rfl rfl ?_; intro X6 hM6 C6)
            have x56 := ab_chg hwM C6 (Nat.le_refl _)
            have x16 := ab_trans x14 (ab_trans x5 x56)
            have hL6 := hL5.keep x56
            have hW6 := hWV.keep x16
            have hR6 := hRV.keep x16
            have hb6 := ab_trans hbV x16
            clear hBe hM hwM C6 x5 x56 x14 x16 hL4 hL5 hWV hRV hbV
            go_wp2_with fail
            refine (twant_any _ b _ _ hW6).mono ?_
            rintro e X7 ⟨⟨q1, c1, q2, c2, rfl, hO1, hO2⟩, x7⟩
            obtain ⟨n1, hn1⟩ : ∃ n, (wnO (S')).length = n := ⟨_, rfl⟩
            obtain ⟨n2, hn2⟩ : ∃ n, (wnN (S')).length = n := ⟨_, rfl⟩
            have hn1b : n1 ≤ 100000 := by
              rw [← hn1]
              unfold wnO
              split
              · exact Nat.zero_le _
              · exact hW6.len
            have hn2b : n2 ≤ 100000 := by
              rw [← hn2]
              unfold wnN
              split
              · exact Nat.zero_le _
              · split <;> exact Nat.le_of_lt (show 4 < 100000 by decide)
            rw [hn1] at hO1 ⊢
            rw [hn2] at hO2 ⊢
            obtain ⟨k0, hk0⟩ : ∃ x, wnK (S') = x := ⟨_, rfl⟩
            rw [hk0]
            obtain ⟨B3, hBe, hQ, hwQ⟩ := blk1 X7 (cgC 0 (.slice none 0 0) (.slice none 0 0)) 51
            go_upto_region 37 with (refine st_cg rfl rfl hQ rfl rfl ?_; intro X8 hQ8 C8)
            have x78 := ab_chg hwQ C8 (Nat.le_refl _)
            have x68 := ab_trans x7 x78
            have hL8 := hL6.keep x68
            have hM8 := hM6.keep x68
            have hW8 := hW6.keep x68
            have hR8 := hR6.keep x68
            have hP1 := hO1.keep x78
            have hP2 := hO2.keep x78
            clear hBe hQ hwQ C8 x78 x7 hL6 hM6 hO1 hO2
            have ne1 : (n0 != n0) = false := by simp
            have ne2 : (b0 != b0) = false := by cases b0 <;> rfl
            have ne3 : (t0 != t0) = false := by cases t0 <;> rfl
            have ne4 : ((S').ag != (S').ag) = false := by simp
            have E1 := neLe x
            refine wp_region_held_drew (S := fun w' => Below X8.heap.size X8 w') (by kernel_rfl) (ab_drew (Below.refl _ _)) (fun hHeld => ?_)
            refine takeH (i := 0) (some 133) rfl rfl (by kernel_rfl) (by kernel_rfl) (by kernel_rfl) (fun _ _ _ h => h) (by rfl) (fun w hSw => by (try dsimp only at hSw); go_simp; try rfl) hHeld ?_
            go_frame
            refine takeH (i := 1) (some 134) rfl rfl (by kernel_rfl) (by kernel_rfl) (by kernel_rfl) (fun _ _ _ h => h) (by rfl) (fun w hSw => by (try dsimp only at hSw); go_simp; try rfl) hHeld ?_
            go_frame
            refine takeH (i := 2) (some 135) rfl rfl (by kernel_rfl) (by kernel_rfl) (by kernel_rfl) (fun _ _ _ h => h) (by rfl) (fun w hSw => by (try dsimp only at hSw); go_simp; try rfl) hHeld ?_
            go_frame
            refine takeH (i := 3) (some 136) rfl rfl (by kernel_rfl) (by kernel_rfl) (by kernel_rfl) (fun _ _ _ h => h) (by rfl) (fun w hSw => by (try dsimp only at hSw); go_simp; try rfl) hHeld ?_
            go_frame
            refine takeH (i := 4) (some 137) rfl rfl (by kernel_rfl) (by kernel_rfl) (by kernel_rfl) (fun _ _ _ h => h) (by rfl) (fun w hSw => by (try dsimp only at hSw); go_simp; try rfl) hHeld ?_
            go_frame
            refine takeH (i := 5) (some 138) rfl rfl (by kernel_rfl) (by kernel_rfl) (by kernel_rfl) (fun _ _ _ h => h) (by rfl) (fun w hSw => by (try dsimp only at hSw); go_simp; try rfl) hHeld ?_
            go_frame
            refine takeH (i := 6) (some 139) rfl rfl (by kernel_rfl) (by kernel_rfl) (by kernel_rfl) (fun _ _ _ h => h) (by rfl) (fun w hSw => by (try dsimp only at hSw); go_simp; try rfl) hHeld ?_
            go_frame
            refine takeH (i := 7) (some 140) rfl rfl (by kernel_rfl) (by kernel_rfl) (by kernel_rfl) (fun _ _ _ h => h) (by rfl) (fun w hSw => by (try dsimp only at hSw); go_simp; try rfl) hHeld ?_
            go_frame
            refine takeH (i := 8) (some 141) rfl rfl (by kernel_rfl) (by kernel_rfl) (by kernel_rfl) (fun _ _ _ h => h) (by rfl) (fun w hSw => by (try dsimp only at hSw); go_simp; try rfl) hHeld ?_
            go_frame
            refine takeH (i := 9) (some 142) rfl rfl (by kernel_rfl) (by kernel_rfl) (by kernel_rfl) (fun _ _ _ h => h) (by rfl) (fun w hSw => by (try dsimp only at hSw); have hh := hL8.keep hSw; have h0 := hh.at (i := 0) rfl; have h1 := hh.at (i := 1) rfl; have h2 := hh.at (i := 2) rfl; have h3 := hh.at (i := 3) rfl; go_simp; try rfl) hHeld ?_
            go_frame
            refine takeH (i := 10) (some 143) rfl rfl (by kernel_rfl) (by kernel_rfl) (by kernel_rfl) (fun _ _ _ h => h) (by rfl) (fun w hSw => by (try dsimp only at hSw); have hh := hM8.keep hSw; have h0 := hh.at (i := 0) rfl; have h1 := hh.at (i := 1) rfl; have h2 := hh.at (i := 2) rfl; have h3 := hh.at (i := 3) rfl; go_simp; try rfl) hHeld ?_
            go_frame
            refine takeH (i := 11) (some 144) rfl rfl (by kernel_rfl) (by kernel_rfl) (by kernel_rfl) (fun _ _ _ h => h) (by rfl) (fun w hSw => by (try dsimp only at hSw); have hh := E1; go_simp; try rfl) hHeld ?_
            go_frame
            refine takeH (i := 12) (some 145) rfl rfl (by kernel_rfl) (by kernel_rfl) (by kernel_rfl) (fun _ _ _ h => h) (by rfl) (fun w hSw => by (try dsimp only at hSw); go_simp; try rfl) hHeld ?_
            go_frame
            refine takeH (i := 13) (some 146) rfl rfl (by kernel_rfl) (by kernel_rfl) (by kernel_rfl) (fun _ _ _ h => h) (by rfl) (fun w hSw => by (try dsimp only at hSw); go_simp; try rfl) hHeld ?_
            go_frame
            refine takeH (i := 14) (some 147) rfl rfl (by kernel_rfl) (by kernel_rfl) (by kernel_rfl) (fun _ _ _ h => h) (by rfl) (fun w hSw => by (try dsimp only at hSw); go_simp; try rfl) hHeld ?_
            go_frame
            refine takeH (i := 15) (some 148) rfl rfl (by kernel_rfl) (by kernel_rfl) (by kernel_rfl) (fun _ _ _ h => h) (by rfl) (fun w hSw => by (try dsimp only at hSw); go_simp; try rfl) hHeld ?_
            go_frame
            refine takeH (i := 16) (some 149) rfl rfl (by kernel_rfl) (by kernel_rfl) (by kernel_rfl) (fun _ _ _ h => h) (by rfl) (fun w hSw => by (try dsimp only at hSw); go_simp; try rfl) hHeld ?_
            go_frame
            refine takeH (i := 17) (some 150) rfl rfl (by kernel_rfl) (by kernel_rfl) (by kernel_rfl) (fun _ _ _ h => h) (by rfl) (fun w hSw => by (try dsimp only at hSw); go_simp; try rfl) hHeld ?_
            go_frame
            refine takeH (i := 18) (some 151) rfl rfl (by kernel_rfl) (by kernel_rfl) (by kernel_rfl) (fun _ _ _ h => h) (by rfl) (fun w hSw => by (try dsimp only at hSw); go_simp; try rfl) hHeld ?_
            go_frame
            refine takeH (i := 19) (some 152) rfl rfl (by kernel_rfl) (by kernel_rfl) (by kernel_rfl) (fun _ _ _ h => h) (by rfl) (fun w hSw => by (try dsimp only at hSw); go_simp; try rfl) hHeld ?_
            go_frame
            refine takeH (i := 21) (some 154) rfl rfl (by kernel_rfl) (by kernel_rfl) (by kernel_rfl) (fun _ _ _ h => h) (by rfl) (fun w hSw => by (try dsimp only at hSw); go_simp; try rfl) hHeld ?_
            go_frame
            refine takeH (i := 22) (some 155) rfl rfl (by kernel_rfl) (by kernel_rfl) (by kernel_rfl) (fun _ _ _ h => h) (by rfl) (fun w hSw => by (try dsimp only at hSw); go_simp; try rfl) hHeld ?_
            go_frame
            refine takeH (i := 23) (some 156) rfl rfl (by kernel_rfl) (by kernel_rfl) (by kernel_rfl) (fun _ _ _ h => h) (by rfl) (fun w hSw => by (try dsimp only at hSw); go_simp; try rfl) hHeld ?_
            go_frame
            refine takeH (i := 24) (some 157) rfl rfl (by kernel_rfl) (by kernel_rfl) (by kernel_rfl) (fun _ _ _ h => h) (by rfl) (fun w hSw => by (try dsimp only at hSw); obtain ⟨-, -, -, hh⟩ := hR8.cells _ hSw; go_simp; try rfl) hHeld ?_
            go_frame
            refine wpAnyH_ready (rs := [20]) (by kernel_rfl) (by simp) (AllReadyH.cons rfl (fun K hK => ?_) AllReadyH.nil)
            go_simp
            refine (tage_any _ b _ _ (hW8.keep hHeld)).mono ?_
            rintro e Y0 ⟨rfl, rfl⟩
            show K _ _
            refine hK.out _ _ hHeld (fun hHeld => ?_)
            clear hK K
            refine takeH (i := 25) (some 158) rfl rfl (by kernel_rfl) (by kernel_rfl) (by kernel_rfl) (fun _ _ _ h => h) (by rfl) (fun w hSw => by (try dsimp only at hSw); go_simp; try rfl) hHeld ?_
            go_frame
            refine takeH (i := 26) (some 159) rfl rfl (by kernel_rfl) (by kernel_rfl) (by kernel_rfl) (fun _ _ _ h => h) (by rfl) (fun w hSw => by (try dsimp only at hSw); go_simp; try rfl) hHeld ?_
            go_frame
            refine takeH (i := 27) (some 160) rfl rfl (by kernel_rfl) (by kernel_rfl) (by kernel_rfl) (fun _ _ _ h => h) (by rfl) (fun w hSw => by (try dsimp only at hSw); go_simp; try rfl) hHeld ?_
            go_frame
            refine takeH (i := 28) (some 161) rfl rfl (by kernel_rfl) (by kernel_rfl) (by kernel_rfl) (fun _ _ _ h => h) (by rfl) (fun w hSw => by (try dsimp only at hSw); have hh := hQ8.keep hSw; have h0 := hh.at (i := 0) rfl; have h1 := hh.at (i := 1) rfl; have h2 := hh.at (i := 2) rfl; go_simp; try rfl) hHeld ?_
            go_frame
            refine takeH (i := 29) (some 162) rfl rfl (by kernel_rfl) (by kernel_rfl) (by kernel_rfl) (fun _ _ _ h => h) (by rfl) (fun w hSw => by (try dsimp only at hSw); go_simp; try rfl) hHeld ?_
            go_frame
            refine wpAnyH_ready (rs := [30]) (by kernel_rfl) (by simp) (AllReadyH.cons rfl (fun K hK => ?_) AllReadyH.nil)
            go_simp
            refine (rtwant_any _ d _ _ _ (hR8.keep hHeld)).mono ?_
            rintro e Y1 ⟨⟨q3, c3, q4, c4, rfl, hI3, hI4⟩, y1⟩
            rw [hn1] at hI3 ⊢
            rw [hn2] at hI4 ⊢
            rw [hk0]
            show K _ _
            refine hK.out _ _ (ab_trans hHeld y1) (fun hHeld => ?_)
            clear hK K
            refine wpAnyH_ready (rs := [31]) (by kernel_rfl) (by simp) (AllReadyH.cons rfl (fun K hK => ?_) AllReadyH.nil)
            go_simp
            refine (tsame_any k0 k0 _ _ _ _ (wnO (S')) (wnO (S')) (wnN (S')) (wnN (S')) _ (hP1.is.keep hHeld) (hP2.is.keep hHeld) hI3 hI4 (by omega) (by omega) (by omega) (by omega)).mono ?_
            rintro e Y2 ⟨rfl, y2⟩
            rw [show smC k0 k0 (wnO (S')) (wnO (S')) (wnN (S')) (wnN (S')) = true from by unfold smC; rw [decide_eq_true rfl, decide_eq_true rfl, decide_eq_true rfl]; rfl]
            show K _ _
            have h8Y := ab_trans hHeld y2
            refine hK.out _ _ h8Y (fun hHeld => ?_)
            clear hK K
            refine takeH (i := 32) (some 165) rfl rfl (by kernel_rfl) (by kernel_rfl) (by kernel_rfl) (fun _ _ _ h => h) (by rfl) (fun w hSw => by (try dsimp only at hSw); go_simp; try rfl) hHeld ?_
            go_frame
            refine takeH (i := 33) (some 166) rfl rfl (by kernel_rfl) (by kernel_rfl) (by kernel_rfl) (fun _ _ _ h => h) (by rfl) (fun w hSw => by (try dsimp only at hSw); go_simp; try rfl) hHeld ?_
            go_frame
            refine wpAnyH_done (by kernel_rfl) ?_ _
            have hQY := hQ8.keep h8Y
            have hOY := hP1.keep h8Y
            have x6Y := ab_trans x68 h8Y
            have y1 : Y2.cell? ⟨X7.heap.size, 1, none⟩ = some (.slice q1 n1 c1) := hQY.at rfl
            clear hHeld hL8 hM8 hW8 hR8 hP1 hP2 hQ8 h8Y x68 ne1 ne2 ne3 ne4 E1 hI3 hI4 y2
            unfold Io at hOY
            rw [hn1] at hOY
            go_upto_region 39 with fail
            go_wp2_with fail
            clear y1
            go_loopw [170] (fun i wr => ∃ (k : Nat) (ys : List Int), k ≤ n1 ∧ i = .int .i64 (k : Int) ∧ wr.ownsRow X6.heap.size 3 1 (.slice q1 n1 c1) n1 (ints ys) ∧ Onl (.slice q1 n1 c1) Y2 wr) (fun i _ => n1 - (intOf i).toNat)
            case atStart => exact ⟨0, _, by omega, rfl, hOY, Onl.refl _ _⟩
            case round =>
              obtain ⟨k, ys, hk, rfl, h, hk1⟩ := hrel
              by_cases ck : k = n1
              · subst ck
                have x6w : Below X6.heap.size X6 wr := x6Y.trans (hk1.below (fun g hg => (World.ownsRow.lt hOY g hg).1))
                have hWz := hW6.keep x6w
                have hRz := hR6.keep x6w
                have hbz := ab_trans hb6 x6w
                clear hW6 hR6 hb6 x6w x6Y h hk1 hOY hQY
                go_wp2_with fail
                exact ⟨⟨j + 1, S', by omega, rfl, hWz, hRz, hbz⟩, by simp only [intOf]; omega⟩
              · have hkn : k < n1 := by omega
                have hki : (k : Int) < (n1 : Int) := by omega
                have y1 : wr.cell? ⟨X7.heap.size, 1, none⟩ = some (.slice q1 n1 c1) := (hk1.blk hQY (blk_own hOY hQY (by decide))).at rfl
                obtain ⟨gg, cap', ee, hbb, hgg, hcc, hmm, -⟩ := own_cells h (fun e => by cases e; omega)
                cases ee
                have hys := owns_len h
                have d9 := h.cellAt k (by omega)
                have fz := h.frozenAt k
                obtain ⟨z, hzz⟩ : ∃ z, ys[k]? = some z := ⟨ys[k], List.getElem?_eq_getElem (by omega)⟩
                have hu9 : (ints ys)[k]? = some (.int .i64 z) := by rw [ints_at, hzz]; rfl
                rw [hu9] at d9
                clear hW6 hR6 hb6 x6Y hOY hQY hu9 hzz
                go_wp2_with fail
                have hst := (h.stored k (.int .i64 (-1))).1
                rw [show (ints ys).set k (.int .i64 (-1)) = ints (ys.set k (-1)) from by simp [ints, List.map_set]] at hst
                exact ⟨⟨k + 1, _, by omega, rfl, hst, hk1.set rfl _ _⟩, by simp only [intOf]; omega⟩
        · have hki : (k : Int) < n9 := by omega
          go_wp2_with fail
          refine (ttick_any _ b _ _ hWV).mono ?_
          rintro e V1 ⟨rfl, hWx, C1⟩
          have hkb := hWV.kind
          have hRx := hRV.frm (frm_chg (X := fun x => x = b) C1 rfl) (fun k hk h9 => by subst hk; exact absurd (hkb.uniq h9) (by decide)) (fun k hk h9 => by subst hk; exact absurd (hkb.uniq h9) (by decide)) (fun k hk h9 => by subst hk; exact absurd (hkb.uniq h9) (by decide))
          have hbx : Below w.heap.size w V1 := hbV.trans ((C1.below hWV.ge).mono hs1)
          clear hWV hRV hbV hkb C1
          go_wp2_with fail
          refine (rttick_any _ d _ _ _ hRx).mono ?_
          rintro e V2 ⟨rfl, hRy, C2⟩
          have hkd := hRx.kind
          have hWy := hWx.frm (frm_chg (X := fun x => x = d) C2 rfl) (fun e => by have h9 := hWx.kind; rw [e] at h9; exact absurd (hkd.uniq h9) (by decide)) (fun x hx h9 => by subst hx; exact absurd (hkd.uniq h9) (by decide))
          have hby : Below w.heap.size w V2 := hbx.trans ((C2.below hRx.ge).mono hs1)
          clear hWx hRx hbx hkd C2
          go_wp2_with fail
          exact ⟨⟨k + 1, _, by omega, rfl, hWy, hRy, hby⟩, by simp only [intOf]; omega⟩
theorem walk {W : World} (nd lf tk : Int) (q : Option Addr) (m cap g off : Nat) (os : List OpX) (hs : OpXRow W q m cap g off os) :
    Calls Try.prog 3 #[.agg #[.int .i64 nd, .int .i64 lf, .int .i64 tk, .slice q m cap]] W fun e w' => e = .returned (.bool true) ∧ Below W.heap.size W w' := by
  obtain ⟨A, hAe, hA, vA⟩ := blk1 W #[.int .i64 nd, .int .i64 lf, .int .i64 tk, .slice q m cap] 24
  go_enter Try.func3, Try.ntmps3
  go_upto_region 1 with fail
  clear hAe
  have a0 : A.cell? ⟨W.heap.size, 0, none⟩ = some (.int .i64 nd) := hA.at rfl
  have a1 : A.cell? ⟨W.heap.size, 1, none⟩ = some (.int .i64 lf) := hA.at rfl
  have a2 : A.cell? ⟨W.heap.size, 2, none⟩ = some (.int .i64 tk) := hA.at rfl
  have a3 : A.cell? ⟨W.heap.size, 3, none⟩ = some (.slice q m cap) := hA.at rfl
  have hsA : OpXRow A q m cap g off os := ⟨hs.len, hs.fits, hs.max, hs.ptr, fun h => Nat.lt_of_lt_of_le (hs.lt h) vA.size, fun j x hx => by
    have h := hs.row j x hx
    have hg := hs.lt (by have := (List.getElem?_eq_some_iff.1 hx).1; have := hs.len; omega)
    exact ⟨keep_cell vA h.c0 hg, keep_cell vA h.c1 hg, keep_cell vA h.c2 hg, h.is.keep vA⟩⟩
  go_wp2_with fail
  refine (plays_any nd lf tk q m cap g off os _ hsA).mono ?_
  rintro e V ⟨rfl, v⟩
  go_wp2_with fail
  go_ret
  exact ⟨rfl, ab_trans vA v⟩
theorem own : ownKnob Try.prog.godebug = none := by kernel_rfl
theorem laidOut : laidOutB Try.prog = true := by kernel_rfl

set_option maxRecDepth 100000 in
theorem lifted (os : Os) (started : os.Started) (H : Type) (enc : TypeId × Value → H) :
    ReturnsInHanded {} Try.checked os 3 .any (Rows.tenureWatchesSpec.pre6 enc Try.prog Try.f3 Rows.tenureWatchesRow.domain false) (Rows.tenureWatchesSpec.post enc Try.prog Try.f3 false true false false) := by
  refine returnsInHanded_of_change (C := Try.checked) own started (by kernel_rfl) Try.func3
    (ChangeSpec.witness6 (enc := enc) (C := Try.checked) false ⟨#[], #[.agg #[.int .i64 0, .int .i64 0, .int .i64 0, .slice none 0 0]], []⟩ 8 (by kernel_rfl) (by kernel_rfl) (by kernel_rfl) (by kernel_rfl)) ?_
  intro W base args ds gs before hval0 hW hcnd _
  have hval : ∀ (j : Nat) t v, Try.f3.params[j]? = some t → args[j]? = some v → Value.okWide Try.prog W .any base t v := hval0
  have hW' := hW
  obtain ⟨p, q, hA0, hV, rfl, hfz, hnd⟩ := hW
  have hA : DataW.TrodAll enc Try.prog W 0 (fun _ => true) true Try.f3.params.toList args.toList ds p := hA0
  rw [Try.params3] at hA hval
  obtain ⟨v0, vs0, d0, ds0, p0, q0, hargs, rfl, rfl, h0, r0⟩ := trodAll_cons hA
  obtain ⟨rfl, rfl, rfl⟩ := trodAll_nil r0
  obtain rfl : args = #[v0] := by cases args; simp_all
  obtain ⟨rfl, rfl⟩ := trodVars_none hV
  have k0 := h0
  have lt0 : ∀ x ∈ p0, x.block < W.heap.size := by obtain ⟨m, hm⟩ := k0; exact DataW.trod_lt m _ _ _ hm
  obtain ⟨nd0_, lf0_, tk0_, sq0_, sn0_, sk0_, sg0_, so0_, os0_, rfl, Z0_⟩ := open_played13 (hval 0 24 v0 rfl rfl) h0
  clear hA0 hval0
  refine (walk nd0_ lf0_ tk0_ sq0_ sn0_ sk0_ sg0_ so0_ os0_ Z0_).mono fun e W' ⟨he, bel⟩ => ?_
  subst he
  exact ⟨_, rfl, _, _, _, [], _, [], hW', trodAll_mk1 (shut_bool Try.underlying4 _), (trodAll_cons_mk (Below.trod laidOut (by kernel_rfl) (of_decide_eq_true (by kernel_rfl)) k0 bel lt0) trodAll_mk0), rfl, bel.frame _, fun h => by cases h⟩

theorem over : Rows.tenureWatchesRow.holds Try.pinned (OpenSpec.ofChange Rows.tenureWatchesSpec) :=
  OpenClaim.holds_of_wide 3 Try.f3 rfl rfl rfl rfl rfl rfl rfl ⟨rfl, rfl, rfl, rfl, rfl⟩ rfl rfl rfl rfl rfl (by kernel_rfl) Try.func3 (by kernel_rfl)
    (of_decide_eq_true (by kernel_rfl)) (by unfold Func.isWrapper; first | (rw [if_pos (by decide +kernel)]; kernel_rfl) | (rw [if_neg (by decide +kernel)]; exact ⟨rfl, rfl⟩))
    (fun os started H enc _ => lifted os started H enc)

theorem proved : Rows.TenureWatchesSaid := over
end Go.Proofs.Ytddpdmolknfjaaa.tenureWatches
namespace Go.Proofs.Ytddpdmolknfjaaa
theorem tenureWatches_holds : Rows.TenureWatchesSaid := tenureWatches.proved
#print axioms tenureWatches_holds
end Go.Proofs.Ytddpdmolknfjaaa
