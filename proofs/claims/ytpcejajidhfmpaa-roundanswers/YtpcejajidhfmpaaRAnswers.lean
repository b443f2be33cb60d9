/-
  A round, whatever answers come, holds and answers what the chapter says: estuarylaw11.RoundAnswers returns true for every input; no condition.
-/
import Derived.Test.YtpcejajidhfmpaaPk15
import Derived.ProofKit
import Derived.OpenShut
import Derived.ChangeOld
import Derived.Below
import Derived.Lib.SmallJoins
namespace Go.Proofs.Ytpcejajidhfmpaa.roundAnswers
open Go.ChangeShapes Go.WideShapes Go.ChangeAt Go.RowKit Go.Joins
set_option linter.unusedVariables false
set_option maxRecDepth 100000

theorem num2 (w : World) : Calls Try.prog 25 #[Err 2] w fun e w' => e = .returned (.int .i64 2) ∧ w' = w := by
  have := gnum_any 2 w
  rw [errV_no (by decide)] at this
  exact this
theorem num0 (w : World) : Calls Try.prog 25 #[.nilIface] w fun e w' => e = .returned (.int .i64 0) ∧ w' = w := by
  have := gnum_any 0 w
  rw [errV_ok rfl] at this
  exact this
abbrev opC (o : OpD) : Array Value := #[.int .i64 o.kd, .int .i64 o.kp, .bool o.ow, .int .i64 o.b.n, .int .i64 o.b.nd, .int .i64 o.b.lf, .int .i64 o.g.n, .int .i64 o.g.nd, .int .i64 o.g.lf, .int .i64 o.p.n, .int .i64 o.p.nd, .int .i64 o.p.lf, .int .i64 o.a.n, .int .i64 o.a.nd, .int .i64 o.a.lf, o.v]
set_option maxHeartbeats 8000000 in
theorem plays_any {W : World} (xn : Int) (xb : Bt) (xk : Int) (q1 : Option Addr) (n1 c1 : Nat) (xo : List Int) (q2 : Option Addr) (n2 c2 : Nat) (xm : List Int) (q : Option Addr) (n cap g off : Nat) (os : List OpD) (W' : World) (h0 : Below W.heap.size W W') (zo : IsZ W (.slice q1 n1 c1) xo) (zn : IsZ W (.slice q2 n2 c2) xm) (Z : OpRow W q n cap g off os) :
    Calls Try.prog 8 #[.int .i64 xn, bV xb, cgV xk (.slice q1 n1 c1) (.slice q2 n2 c2), .slice q n cap] W' fun e w' => e = .returned (.bool true) ∧ Below W'.heap.size W' w' := by
  have hn1 := zo.1.len.1
  have hn2 := zn.1.len.1
  have lz1 := zo.2
  have lz2 := zn.2
  rw [hn1] at lz1
  rw [hn2] at lz2
  have hmx := Z.max
  have hfit := Z.fits
  go_enter Try.func8, Try.ntmps8
  go_upto_region 1 with fail
  obtain ⟨A, hAe, hX, hY, hw⟩ := blk2 W' (bC xb) (cgC xk (.slice q1 n1 c1) (.slice q2 n2 c2)) 23 26
  rw [hAe]
  clear hAe
  go_upto_region 3 with (go_at_call 9; refine (alive11_any _).mono ?_; rintro e W1 ⟨rfl, b1⟩)
  have hX1 := hX.keep b1
  have hY1 := hY.keep b1
  have hw1 := ab_trans hw b1
  clear hX hY hw b1
  obtain ⟨x0, x1, x2⟩ := cells3 hX1
  obtain ⟨y0, y1, y2⟩ := cellsG hY1
  have hbv := Below.refl W1.heap.size W1
  have h01 := h0.trans (hw1.mono h0.size)
  by_cases hlen : n ≤ 300
  · have i1 : ¬ (300 < (n : Int)) := by omega
    have i2 : ¬ (300 < n) := by omega
    by_cases hsum : n1 + n2 ≤ 200
    · have i3 : ¬ (200 < (n1 : Int) + (n2 : Int)) := by omega
      have i4 : ¬ (200 < n1 + n2) := by omega
      cases hok : begOK xn xb ⟨xk, xo, xm⟩
      · go_wp2_with fail
        refine (begin_no xn xb ⟨xk, xo, xm⟩ _ _ W1 hok (zo.1.keep h01) (zn.1.keep h01)).mono ?_
        rintro e W2 ⟨rfl, b2⟩
        have hbv := b2
        go_wp2_with fail
        refine (rbegin_no xn xb ⟨xk, xo, xm⟩ _ _ W2 hok (zo.1.keep (h01.trans (b2.mono h01.size))) (zn.1.keep (h01.trans (b2.mono h01.size)))).mono ?_
        rintro e W3 ⟨rfl, b3⟩
        go_wp2_with fail
        refine (num2 _).mono ?_
        rintro e Z1 ⟨rfl, hZ1⟩
        subst Z1
        go_wp2_with fail
        refine (num2 _).mono ?_
        rintro e Z1 ⟨rfl, hZ1⟩
        subst Z1
        go_wp2_with fail
        go_ret
        exact ⟨rfl, ab_trans hw1 (ab_trans b2 b3)⟩
      · have hN : ∃ N : Nat, xn = (N : Int) := by
          unfold begOK at hok
          simp only [Bool.and_eq_true, decide_eq_true_eq] at hok
          exact ⟨xn.toNat, by omega⟩
        obtain ⟨N, rfl⟩ := hN
        go_wp2_with fail
        refine (begin_yes (G := fun _ => False) N xb ⟨xk, xo, xm⟩ _ _ W1 hok (zo.1.keep h01) (zn.1.keep h01) (fun k h => h.elim)).mono ?_
        rintro e W2 ⟨b, mp, ma, rfl, hR, b2⟩
        have hbv := b2
        have h02 := h01.trans (b2.mono h01.size)
        go_wp2_with fail
        refine (rbegin_yes W N xb ⟨xk, xo, xm⟩ _ _ W2 h02 hok zo.1 zn.1).mono ?_
        rintro e W3 ⟨d, g1, g2, g3, rfl, hD, b3⟩
        go_wp2_with fail
        refine (num0 _).mono ?_
        rintro e Z1 ⟨rfl, hZ1⟩
        subst Z1
        have hX3 := hX1.keep (ab_trans b2 b3)
        have hR3 := hR.keep b3
        have hbl := hR.lt
        have hml := hR.pm.lt
        have hal := hR.am.lt
        have zW : W'.heap.size < W1.heap.size := hX1.lt
        have z12 := b2.size
        have z00 := h0.size
        have z23 := b3.size
        have hw3 := ab_trans hw1 (ab_trans b2 b3)
        have h03 := h02.trans (b3.mono h02.size)
        clear x0 x1 x2 y0 y1 y2 hbv i1 i2 i3 i4 hY1 hX1 hok
        go_wp2_with fail
        go_loopw [66] (fun iv wr => ∃ (j : Nat) (R : Rd), j ≤ n ∧ iv = .int .i64 (j : Int) ∧ Rn (fun _ => False) wr W1.heap.size b mp ma R ∧ Drn W wr W2.heap.size d g1 g2 g3 R ∧ Blk wr W'.heap.size (bC xb) 23 ∧ Below W'.heap.size W' wr ∧ W2.heap.size ≤ wr.heap.size) (fun iv _ => n - (intOf iv).toNat)
        case atStart => exact ⟨0, _, by omega, rfl, hR3, hD, hX3, hw3, z23⟩
        case round =>
          obtain ⟨j, R, hj, rfl, hRr, hDr, hXr, hwr, hzr⟩ := hrel
          obtain ⟨Wr, hWr⟩ : ∃ W, W = wr := ⟨_, rfl⟩
          subst hWr
          clear hR3 hD hX3 hw3
          by_cases cj : j = n
          · subst cj
            go_wp2_with fail
            go_ret
            exact ⟨rfl, hwr⟩
          · have hjn : j < n := by omega
            have hji : (j : Int) < (n : Int) := by omega
            have hlen2 := Z.len
            obtain ⟨⟨okd, okp, oow, ob, og, op, oa, ov, ol⟩, ho⟩ : ∃ o, os[j]? = some o := ⟨os[j]'(by omega), List.getElem?_eq_getElem _⟩
            have hg := Z.lt (by omega)
            have h0r := h0.trans (hwr.mono h0.size)
            have sr0 := (Z.row j _ ho).sv
            obtain ⟨d0, d1, d2, d3, d4, d5, d6, d7, d8, d9, d10, d11, d12, d13, d14, d15, sr⟩ := (Z.row j _ ho).keep hg h0r
            obtain rfl := Z.ptr (by omega)
            dsimp only at d0 d1 d2 d3 d4 d5 d6 d7 d8 d9 d10 d11 d12 d13 d14 d15 sr sr0
            obtain ⟨qv, cv, e⟩ := sr.form
            subst e
            obtain ⟨nv, hnv⟩ : ∃ n, ol.length = n := ⟨_, rfl⟩
            rw [hnv] at d15 sr sr0
            have hnc := sr0.len
            go_upto_region 12 with fail
            obtain ⟨V, hE, hO, hbV⟩ := blk1 Wr (opC ⟨okd, okp, oow, ob, og, op, oa, .slice qv nv cv, ol⟩) 68
            rw [show Wr.alloc (.cells _ 68) = V from hE]
            clear hE d0 d1 d2 d3 d4 d5 d6 d7 d8 d9 d10 d11 d12 d13 d14 d15
            have y2 : ∀ U, Below V.heap.size V U → U.cell? ⟨Wr.heap.size, 2, none⟩ = some (.bool oow) := hO.cellV (i := 2) rfl
            have y15 : ∀ U, Below V.heap.size V U → U.cell? ⟨Wr.heap.size, 15, none⟩ = some (.slice qv nv cv) := hO.cellV (i := 15) rfl
            have hbv := Below.refl V.heap.size V
            by_cases hv2 : nv ≤ 200
            · have i1 : ¬ (200 < (nv : Int)) := by omega
              have i2 : ¬ (200 < nv) := by omega
              go_upto_region 14 with fail
              go_cut [76] from 75 to 75 (fun s wc => s = .bool oow ∧ wc = V)
              case first =>
                go_wp2_with fail
                go_meet
                case rel => exact ⟨rfl, rfl⟩
              case rest =>
                obtain ⟨rfl, hV⟩ := hcut
                subst wc
                apply_assumption
                go_cut [] from 77 to 78 (fun wc => ∃ bb, Blk wc Wr.heap.size (opC ⟨okd, okp, oow, bb, og, op, oa, .slice qv nv cv, ol⟩) 68 ∧ Below Wr.heap.size Wr wc)
                case first =>
                  cases oow
                  · go_wp2_with fail
                    go_meet
                    case rel => exact ⟨ob, hO, hbV⟩
                  · have hXV := hXr.keep hbV
                    obtain ⟨x0, x1, x2⟩ := cells3 hXV
                    have y3 : V.cell? ⟨Wr.heap.size, 3, none⟩ = some (.int .i64 ob.n) := hO.at (i := 3) rfl
                    have y4 : V.cell? ⟨Wr.heap.size, 4, none⟩ = some (.int .i64 ob.nd) := hO.at (i := 4) rfl
                    have y5 : V.cell? ⟨Wr.heap.size, 5, none⟩ = some (.int .i64 ob.lf) := hO.at (i := 5) rfl
                    have f3 := hO.frozen 3
                    have f4 := hO.frozen 4
                    have f5 := hO.frozen 5
                    go_wp2_with fail
                    go_meet
                    case rel => exact ⟨xb, ((hO.set 3 _).set 4 _).set 5 _, ab_chg hbV (((chg_set V Wr.heap.size 3 (.int .i64 xb.n)).trans (chg_set _ Wr.heap.size 4 (.int .i64 xb.nd))).trans (chg_set _ Wr.heap.size 5 (.int .i64 xb.lf))) (Nat.le_refl _)⟩
                case rest =>
                  obtain ⟨bb, hO1, hbV1⟩ := hcut
                  obtain ⟨V1, hV1⟩ : ∃ W, W = wc := ⟨_, rfl⟩
                  subst hV1
                  clear y2 y15 hbv hO hbV i1 i2
                  have hRV := hRr.keep hbV1
                  have hDV := hDr.keep hbV1
                  have hXV := hXr.keep hbV1
                  have hwV := ab_trans hwr hbV1
                  have zV := hbV1.size
                  have hoV := hO1.lt
                  have y9 : ∀ U, Below V1.heap.size V1 U → U.cell? ⟨Wr.heap.size, 9, none⟩ = some (.int .i64 op.n) := hO1.cellV (i := 9) rfl
                  have y10 : ∀ U, Below V1.heap.size V1 U → U.cell? ⟨Wr.heap.size, 10, none⟩ = some (.int .i64 op.nd) := hO1.cellV (i := 10) rfl
                  have y11 : ∀ U, Below V1.heap.size V1 U → U.cell? ⟨Wr.heap.size, 11, none⟩ = some (.int .i64 op.lf) := hO1.cellV (i := 11) rfl
                  have y12 : ∀ U, Below V1.heap.size V1 U → U.cell? ⟨Wr.heap.size, 12, none⟩ = some (.int .i64 oa.n) := hO1.cellV (i := 12) rfl
                  have y13 : ∀ U, Below V1.heap.size V1 U → U.cell? ⟨Wr.heap.size, 13, none⟩ = some (.int .i64 oa.nd) := hO1.cellV (i := 13) rfl
                  have y14 : ∀ U, Below V1.heap.size V1 U → U.cell? ⟨Wr.heap.size, 14, none⟩ = some (.int .i64 oa.lf) := hO1.cellV (i := 14) rfl
                  have y15 : ∀ U, Below V1.heap.size V1 U → U.cell? ⟨Wr.heap.size, 15, none⟩ = some (.slice qv nv cv) := hO1.cellV (i := 15) rfl
                  have hbv := Below.refl V1.heap.size V1
                  go_upto_region 17 with fail
                  obtain ⟨V2, hE2, hP2, bV2⟩ := blk1 V1 (rC op oa (.slice qv nv cv)) 61
                  rw [show V1.alloc (.cells _ 61) = V2 from hE2]
                  clear hE2 y9 y10 y11 y12 y13 y14 y15
                  have p6 : ∀ U, Below V2.heap.size V2 U → U.cell? ⟨V1.heap.size, 6, none⟩ = some (.slice qv nv cv) := hP2.cellV (i := 6) rfl
                  have hbv := Below.refl V2.heap.size V2
                  have srV := sr.keep (ab_trans hbV1 bV2)
                  go_upto_region 18 with (first
                    | (refine bs_own rfl rfl [] (vs := #[]) (by simp) (isl0 _) rfl (by decide) ?_; intro V3 hN3 b3' z3; clear z3; have hbv := b3'; have srV3 := srV.keep b3')
                    | (have mk := srV3; clear mk; refine app_i V2 rfl rfl (l := []) (m := ol) rfl hN3 rfl srV3 hnv (by omega) b3' ?_; intro v4 V4 hown4 hnil4 b4 hg4 hat4; have I4 := io_of hown4; obtain ⟨q4, c4, e4⟩ := I4.is.form; simp only [List.nil_append] at e4 I4; rw [hnv] at e4; subst e4; have hbv := b4; have fz6 := (hP2.keep b4).frozen 6; clear hnil4 hg4 hat4))
                  have hP5 : Blk (V4.setCell ⟨V1.heap.size, 6, none⟩ (.slice q4 nv c4)) V1.heap.size (rC op oa (.slice q4 nv c4)) 61 := (hP2.keep b4).set 6 _
                  have C5 := chg_set V4 V1.heap.size 6 (.slice q4 nv c4)
                  have bV5 := ab_chg (ab_trans bV2 b4) C5 (Nat.le_refl _)
                  have z12' : V1.heap.size < V2.heap.size := hP2.lt
                  have I5 := io_chg I4 C5 z12'
                  have z25 : V2.heap.size ≤ V4.heap.size := b4.size
                  have z45 : V4.heap.size = (V4.setCell ⟨V1.heap.size, 6, none⟩ (.slice q4 nv c4)).heap.size := C5.size.symm
                  generalize V4.setCell ⟨V1.heap.size, 6, none⟩ (.slice q4 nv c4) = V5 at hP5 C5 bV5 I5 z45 ⊢
                  have hO5 := hO1.keep bV5
                  have hX5 := hXV.keep bV5
                  have hw5 := ab_trans hwV bV5
                  have hD5 := hDV.keep bV5
                  obtain ⟨G, hGd⟩ : ∃ G : Nat → Prop, G = fun k => (Value.slice q4 nv c4).ownBlock = some k := ⟨_, rfl⟩
                  have hGlo : ∀ k, G k → V2.heap.size ≤ k := fun k hk => by rw [hGd] at hk; exact (I5.lt k hk).1
                  have hGhi : ∀ k, G k → k < V5.heap.size := fun k hk => by rw [hGd] at hk; exact (I5.lt k hk).2
                  have hR5 : Rn G V5 W1.heap.size b mp ma R := (hRV.up (fun k hk => .inr (by have := hGlo k hk; omega))).keep bV5
                  obtain ⟨ld, l1, l2, l3⟩ := hDr.lts
                  have gd1 := hDr.ged
                  have gd2 := hDr.ge1
                  have gd3 := hDr.ge2
                  have gd4 := hDr.ge3
                  have gb1 := hRr.geb
                  have gb2 := hRr.gep
                  have gb3 := hRr.gea
                  have hXlo : ∀ k, bkx b mp ma d g1 g2 g3 k → W1.heap.size ≤ k ∧ k < Wr.heap.size := by
                    rintro k ((e | e | e) | (e | e | e | e)) <;> subst e <;> omega
                  have D : ∀ U, Frm (bkx b mp ma d g1 g2 g3) V5 U → Blk U Wr.heap.size (opC ⟨okd, okp, oow, bb, og, op, oa, .slice qv nv cv, ol⟩) 68 ∧ Blk U V1.heap.size (rC op oa (.slice q4 nv c4)) 61 := fun U hF => ⟨hO5.frm hF (fun h => by have := hXlo _ h; omega), hP5.frm hF (fun h => by have := hXlo _ h; omega)⟩
                  have hzk : W1.heap.size ≤ V5.heap.size := by omega
                  have ol2 : ol.length ≤ 1000 := by omega
                  clear hN3 b3' srV3 hown4 hP2 p6 hbv srV fz6 hO1 hXV hwV hDV hRV b4 bV2 C5 I4
                  have u0 : ∀ U, Below V5.heap.size V5 U → U.cell? ⟨Wr.heap.size, 0, none⟩ = some (.int .i64 okd) := hO5.cellV (i := 0) rfl
                  have hbv := Below.refl V5.heap.size V5
                  go_upto_block 2 with fail
                  clear u0
                  go_cut [16, 17] from 88 to 134 (fun gv wv wc => ∃ (y : Bool) (R' : Rd), gv = .bool y ∧ wv = .bool y ∧ Rn G wc W1.heap.size b mp ma R' ∧ Drn W wc W2.heap.size d g1 g2 g3 R' ∧ Frm (bkx b mp ma d g1 g2 g3) V5 wc)
                  case first =>
                    by_cases k0 : okd = 0
                    · have z0 : (okd == 0) = true := by simp [k0]
                      clear k0
                      go_upto_region 22 with fail
                      refine wp_region_held_drew (S := fun w' => Frm (bkx b mp ma d g1 g2 g3) V5 w') (by kernel_rfl) (frm_below (ab_drew (Below.refl _ _))) (fun hHeld => ?_)
                      refine takeH (i := 0) (some 106) rfl rfl (by kernel_rfl) (by kernel_rfl) (by kernel_rfl) (fun _ _ _ h => h) (by rfl) (fun w hSw => by (try dsimp only at hSw); go_simp; try rfl) hHeld ?_
                      go_frame
                      refine takeH (i := 1) (some 107) rfl rfl (by kernel_rfl) (by kernel_rfl) (by kernel_rfl) (fun _ _ _ h => h) (by rfl) (fun w hSw => by (try dsimp only at hSw); go_simp; try rfl) hHeld ?_
                      go_frame
                      refine takeH (i := 2) (some 108) rfl rfl (by kernel_rfl) (by kernel_rfl) (by kernel_rfl) (fun _ _ _ h => h) (by rfl) (fun w hSw => by (try dsimp only at hSw); have hh := (D _ hSw).1; have y1 := hh.at (i := 1) rfl; go_simp; try rfl) hHeld ?_
                      go_frame
                      refine takeH (i := 3) (some 109) rfl rfl (by kernel_rfl) (by kernel_rfl) (by kernel_rfl) (fun _ _ _ h => h) (by rfl) (fun w hSw => by (try dsimp only at hSw); go_simp; try rfl) hHeld ?_
                      go_frame
                      refine takeH (i := 4) (some 110) rfl rfl (by kernel_rfl) (by kernel_rfl) (by kernel_rfl) (fun _ _ _ h => h) (by rfl) (fun w hSw => by (try dsimp only at hSw); have hh := (D _ hSw).1; have y3 := hh.at (i := 3) rfl; have y4 := hh.at (i := 4) rfl; have y5 := hh.at (i := 5) rfl; go_simp; try rfl) hHeld ?_
                      go_frame
                      refine takeH (i := 5) (some 111) rfl rfl (by kernel_rfl) (by kernel_rfl) (by kernel_rfl) (fun _ _ _ h => h) (by rfl) (fun w hSw => by (try dsimp only at hSw); have hh := (D _ hSw).2; have y0 := hh.at (i := 0) rfl; have y1 := hh.at (i := 1) rfl; have y2 := hh.at (i := 2) rfl; have y3 := hh.at (i := 3) rfl; have y4 := hh.at (i := 4) rfl; have y5 := hh.at (i := 5) rfl; have y6 := hh.at (i := 6) rfl; go_simp; try rfl) hHeld ?_
                      go_frame
                      refine takeH (i := 7) (some 113) rfl rfl (by kernel_rfl) (by kernel_rfl) (by kernel_rfl) (fun _ _ _ h => h) (by rfl) (fun w hSw => by (try dsimp only at hSw); go_simp; try rfl) hHeld ?_
                      go_frame
                      refine takeH (i := 8) (some 114) rfl rfl (by kernel_rfl) (by kernel_rfl) (by kernel_rfl) (fun _ _ _ h => h) (by rfl) (fun w hSw => by (try dsimp only at hSw); go_simp; try rfl) hHeld ?_
                      go_frame
                      refine takeH (i := 9) (some 115) rfl rfl (by kernel_rfl) (by kernel_rfl) (by kernel_rfl) (fun _ _ _ h => h) (by rfl) (fun w hSw => by (try dsimp only at hSw); have hh := (D _ hSw).1; have y1 := hh.at (i := 1) rfl; go_simp; try rfl) hHeld ?_
                      go_frame
                      refine takeH (i := 10) (some 116) rfl rfl (by kernel_rfl) (by kernel_rfl) (by kernel_rfl) (fun _ _ _ h => h) (by rfl) (fun w hSw => by (try dsimp only at hSw); go_simp; try rfl) hHeld ?_
                      go_frame
                      refine takeH (i := 11) (some 117) rfl rfl (by kernel_rfl) (by kernel_rfl) (by kernel_rfl) (fun _ _ _ h => h) (by rfl) (fun w hSw => by (try dsimp only at hSw); have hh := (D _ hSw).1; have y3 := hh.at (i := 3) rfl; have y4 := hh.at (i := 4) rfl; have y5 := hh.at (i := 5) rfl; go_simp; try rfl) hHeld ?_
                      go_frame
                      refine takeH (i := 12) (some 118) rfl rfl (by kernel_rfl) (by kernel_rfl) (by kernel_rfl) (fun _ _ _ h => h) (by rfl) (fun w hSw => by (try dsimp only at hSw); go_simp; try rfl) hHeld ?_
                      go_frame
                      refine takeH (i := 13) (some 119) rfl rfl (by kernel_rfl) (by kernel_rfl) (by kernel_rfl) (fun _ _ _ h => h) (by rfl) (fun w hSw => by (try dsimp only at hSw); have hh := (D _ hSw).1; have y9 := hh.at (i := 9) rfl; have y10 := hh.at (i := 10) rfl; have y11 := hh.at (i := 11) rfl; have y12 := hh.at (i := 12) rfl; have y13 := hh.at (i := 13) rfl; have y14 := hh.at (i := 14) rfl; have y15 := hh.at (i := 15) rfl; go_simp; try rfl) hHeld ?_
                      go_frame
                      refine wpAnyH_ready (rs := [6]) (by kernel_rfl) (by simp) (AllReadyH.cons rfl (fun K hK => ?_) AllReadyH.nil)
                      go_simp
                      have hvd : Below V5.heap.size V5 V5.drew := ab_drew (Below.refl _ _)
                      have zvd : V5.heap.size ≤ V5.drew.heap.size := Nat.le_refl _
                      generalize V5.drew = V6 at *
                      refine (promise_any W1.heap.size b mp ma R okp bb op oa (.slice q4 nv c4) ol V6 (hR5.keep hvd) (by omega) (fun k hk => by have := hGhi k hk; omega) (I5.is.keep hvd) ol2).mono ?_
                      rintro e W6 ⟨rfl, hR6, F6⟩
                      show K _ _
                      have FX6 : Frm (bkx b mp ma d g1 g2 g3) V5 W6 := (frm_below hvd).trans (F6.mono fun k hk => .inl hk)
                      have hD6 := (hD5.keep hvd).frm F6 (fun k hk => by have := hXlo k (.inl hk); omega) (fun h => by rcases h with e | e | e <;> omega) (fun h => by rcases h with e | e | e <;> omega) (fun h => by rcases h with e | e | e <;> omega) (fun h => by rcases h with e | e | e <;> omega)
                      refine hK.out _ _ FX6 (fun hHeld => ?_)
                      clear hK K
                      refine wpAnyH_ready (rs := [14]) (by kernel_rfl) (by simp) (AllReadyH.cons rfl (fun K hK => ?_) AllReadyH.nil)
                      go_simp
                      refine (rpromise_any W W2.heap.size d g1 g2 g3 R okp bb op oa (.slice qv nv cv) ol W6 hD6 sr0 ol2).mono ?_
                      rintro e W7 ⟨rfl, hD7, F7⟩
                      show K _ _
                      have FX7 := FX6.trans (F7.mono fun k hk => (.inr hk : bkx b mp ma d g1 g2 g3 k))
                      have hR7 := hR6.frm F7 hD6.noI.g (fun h => by rcases h with e | e | e | e <;> omega) (fun h => by rcases h with e | e | e | e <;> omega) (fun h => by rcases h with e | e | e | e <;> omega)
                      refine hK.out _ _ FX7 (fun hHeld => ?_)
                      clear hK K
                      refine takeH (i := 15) (some 16) rfl rfl (by kernel_rfl) (by kernel_rfl) (by kernel_rfl) (fun _ _ _ h => h) (by rfl) (fun w hSw => by (try dsimp only at hSw); go_simp; try rfl) hHeld ?_
                      go_frame
                      refine takeH (i := 16) (some 17) rfl rfl (by kernel_rfl) (by kernel_rfl) (by kernel_rfl) (fun _ _ _ h => h) (by rfl) (fun w hSw => by (try dsimp only at hSw); go_simp; try rfl) hHeld ?_
                      go_frame
                      refine wpAnyH_done (by kernel_rfl) ?_ _
                      go_wp2_with fail
                      go_meet
                      case rel => exact ⟨_, _, rfl, rfl, hR7, hD7, FX7⟩
                    · have z0 : (okd == 0) = false := by simp [k0]
                      by_cases k1 : okd = 1
                      · have z1 : (okd == 1) = true := by simp [k1]
                        clear k1 k0
                        go_upto_region 24 with fail
                        refine wp_region_held_drew (S := fun w' => Frm (bkx b mp ma d g1 g2 g3) V5 w') (by kernel_rfl) (frm_below (ab_drew (Below.refl _ _))) (fun hHeld => ?_)
                        refine takeH (i := 0) (some 123) rfl rfl (by kernel_rfl) (by kernel_rfl) (by kernel_rfl) (fun _ _ _ h => h) (by rfl) (fun w hSw => by (try dsimp only at hSw); go_simp; try rfl) hHeld ?_
                        go_frame
                        refine takeH (i := 1) (some 124) rfl rfl (by kernel_rfl) (by kernel_rfl) (by kernel_rfl) (fun _ _ _ h => h) (by rfl) (fun w hSw => by (try dsimp only at hSw); go_simp; try rfl) hHeld ?_
                        go_frame
                        refine takeH (i := 2) (some 125) rfl rfl (by kernel_rfl) (by kernel_rfl) (by kernel_rfl) (fun _ _ _ h => h) (by rfl) (fun w hSw => by (try dsimp only at hSw); have hh := (D _ hSw).1; have y1 := hh.at (i := 1) rfl; go_simp; try rfl) hHeld ?_
                        go_frame
                        refine takeH (i := 3) (some 126) rfl rfl (by kernel_rfl) (by kernel_rfl) (by kernel_rfl) (fun _ _ _ h => h) (by rfl) (fun w hSw => by (try dsimp only at hSw); go_simp; try rfl) hHeld ?_
                        go_frame
                        refine takeH (i := 4) (some 127) rfl rfl (by kernel_rfl) (by kernel_rfl) (by kernel_rfl) (fun _ _ _ h => h) (by rfl) (fun w hSw => by (try dsimp only at hSw); have hh := (D _ hSw).1; have y3 := hh.at (i := 3) rfl; have y4 := hh.at (i := 4) rfl; have y5 := hh.at (i := 5) rfl; go_simp; try rfl) hHeld ?_
                        go_frame
                        refine takeH (i := 6) (some 129) rfl rfl (by kernel_rfl) (by kernel_rfl) (by kernel_rfl) (fun _ _ _ h => h) (by rfl) (fun w hSw => by (try dsimp only at hSw); go_simp; try rfl) hHeld ?_
                        go_frame
                        refine takeH (i := 7) (some 130) rfl rfl (by kernel_rfl) (by kernel_rfl) (by kernel_rfl) (fun _ _ _ h => h) (by rfl) (fun w hSw => by (try dsimp only at hSw); go_simp; try rfl) hHeld ?_
                        go_frame
                        refine takeH (i := 8) (some 131) rfl rfl (by kernel_rfl) (by kernel_rfl) (by kernel_rfl) (fun _ _ _ h => h) (by rfl) (fun w hSw => by (try dsimp only at hSw); have hh := (D _ hSw).1; have y1 := hh.at (i := 1) rfl; go_simp; try rfl) hHeld ?_
                        go_frame
                        refine takeH (i := 9) (some 132) rfl rfl (by kernel_rfl) (by kernel_rfl) (by kernel_rfl) (fun _ _ _ h => h) (by rfl) (fun w hSw => by (try dsimp only at hSw); go_simp; try rfl) hHeld ?_
                        go_frame
                        refine takeH (i := 10) (some 133) rfl rfl (by kernel_rfl) (by kernel_rfl) (by kernel_rfl) (fun _ _ _ h => h) (by rfl) (fun w hSw => by (try dsimp only at hSw); have hh := (D _ hSw).1; have y3 := hh.at (i := 3) rfl; have y4 := hh.at (i := 4) rfl; have y5 := hh.at (i := 5) rfl; go_simp; try rfl) hHeld ?_
                        go_frame
                        refine wpAnyH_ready (rs := [5]) (by kernel_rfl) (by simp) (AllReadyH.cons rfl (fun K hK => ?_) AllReadyH.nil)
                        go_simp
                        have hvd : Below V5.heap.size V5 V5.drew := ab_drew (Below.refl _ _)
                        have zvd : V5.heap.size ≤ V5.drew.heap.size := Nat.le_refl _
                        generalize V5.drew = V6 at *
                        refine (accepted_any W1.heap.size b mp ma R okp bb V6 (hR5.keep hvd)).mono ?_
                        rintro e W6 ⟨rfl, hR6, F6⟩
                        show K _ _
                        have FX6 : Frm (bkx b mp ma d g1 g2 g3) V5 W6 := (frm_below hvd).trans (F6.mono fun k hk => .inl hk)
                        have hD6 := (hD5.keep hvd).frm F6 (fun k hk => by have := hXlo k (.inl hk); omega) (fun h => by rcases h with e | e | e <;> omega) (fun h => by rcases h with e | e | e <;> omega) (fun h => by rcases h with e | e | e <;> omega) (fun h => by rcases h with e | e | e <;> omega)
                        refine hK.out _ _ FX6 (fun hHeld => ?_)
                        clear hK K
                        refine wpAnyH_ready (rs := [11]) (by kernel_rfl) (by simp) (AllReadyH.cons rfl (fun K hK => ?_) AllReadyH.nil)
                        go_simp
                        refine (raccepted_any W W2.heap.size d g1 g2 g3 R okp bb W6 hD6).mono ?_
                        rintro e W7 ⟨rfl, hD7, F7⟩
                        show K _ _
                        have FX7 := FX6.trans (F7.mono fun k hk => (.inr hk : bkx b mp ma d g1 g2 g3 k))
                        have hR7 := hR6.frm F7 hD6.noI.g (fun h => by rcases h with e | e | e | e <;> omega) (fun h => by rcases h with e | e | e | e <;> omega) (fun h => by rcases h with e | e | e | e <;> omega)
                        refine hK.out _ _ FX7 (fun hHeld => ?_)
                        clear hK K
                        refine takeH (i := 12) (some 16) rfl rfl (by kernel_rfl) (by kernel_rfl) (by kernel_rfl) (fun _ _ _ h => h) (by rfl) (fun w hSw => by (try dsimp only at hSw); go_simp; try rfl) hHeld ?_
                        go_frame
                        refine takeH (i := 13) (some 17) rfl rfl (by kernel_rfl) (by kernel_rfl) (by kernel_rfl) (fun _ _ _ h => h) (by rfl) (fun w hSw => by (try dsimp only at hSw); go_simp; try rfl) hHeld ?_
                        go_frame
                        refine wpAnyH_done (by kernel_rfl) ?_ _
                        go_wp2_with fail
                        go_meet
                        case rel => exact ⟨_, _, rfl, rfl, hR7, hD7, FX7⟩
                      · have z1 : (okd == 1) = false := by simp [k1]
                        clear k1 k0
                        go_upto_region 20 with fail
                        refine wp_region_held_drew (S := fun w' => Frm (bkx b mp ma d g1 g2 g3) V5 w') (by kernel_rfl) (frm_below (ab_drew (Below.refl _ _))) (fun hHeld => ?_)
                        refine takeH (i := 0) (some 88) rfl rfl (by kernel_rfl) (by kernel_rfl) (by kernel_rfl) (fun _ _ _ h => h) (by rfl) (fun w hSw => by (try dsimp only at hSw); go_simp; try rfl) hHeld ?_
                        go_frame
                        refine takeH (i := 1) (some 89) rfl rfl (by kernel_rfl) (by kernel_rfl) (by kernel_rfl) (fun _ _ _ h => h) (by rfl) (fun w hSw => by (try dsimp only at hSw); go_simp; try rfl) hHeld ?_
                        go_frame
                        refine takeH (i := 2) (some 90) rfl rfl (by kernel_rfl) (by kernel_rfl) (by kernel_rfl) (fun _ _ _ h => h) (by rfl) (fun w hSw => by (try dsimp only at hSw); have hh := (D _ hSw).1; have y1 := hh.at (i := 1) rfl; go_simp; try rfl) hHeld ?_
                        go_frame
                        refine takeH (i := 3) (some 91) rfl rfl (by kernel_rfl) (by kernel_rfl) (by kernel_rfl) (fun _ _ _ h => h) (by rfl) (fun w hSw => by (try dsimp only at hSw); go_simp; try rfl) hHeld ?_
                        go_frame
                        refine takeH (i := 4) (some 92) rfl rfl (by kernel_rfl) (by kernel_rfl) (by kernel_rfl) (fun _ _ _ h => h) (by rfl) (fun w hSw => by (try dsimp only at hSw); have hh := (D _ hSw).1; have y3 := hh.at (i := 3) rfl; have y4 := hh.at (i := 4) rfl; have y5 := hh.at (i := 5) rfl; go_simp; try rfl) hHeld ?_
                        go_frame
                        refine takeH (i := 5) (some 93) rfl rfl (by kernel_rfl) (by kernel_rfl) (by kernel_rfl) (fun _ _ _ h => h) (by rfl) (fun w hSw => by (try dsimp only at hSw); go_simp; try rfl) hHeld ?_
                        go_frame
                        refine takeH (i := 6) (some 94) rfl rfl (by kernel_rfl) (by kernel_rfl) (by kernel_rfl) (fun _ _ _ h => h) (by rfl) (fun w hSw => by (try dsimp only at hSw); have hh := (D _ hSw).1; have y6 := hh.at (i := 6) rfl; have y7 := hh.at (i := 7) rfl; have y8 := hh.at (i := 8) rfl; go_simp; try rfl) hHeld ?_
                        go_frame
                        refine takeH (i := 8) (some 96) rfl rfl (by kernel_rfl) (by kernel_rfl) (by kernel_rfl) (fun _ _ _ h => h) (by rfl) (fun w hSw => by (try dsimp only at hSw); go_simp; try rfl) hHeld ?_
                        go_frame
                        refine takeH (i := 9) (some 97) rfl rfl (by kernel_rfl) (by kernel_rfl) (by kernel_rfl) (fun _ _ _ h => h) (by rfl) (fun w hSw => by (try dsimp only at hSw); go_simp; try rfl) hHeld ?_
                        go_frame
                        refine takeH (i := 10) (some 98) rfl rfl (by kernel_rfl) (by kernel_rfl) (by kernel_rfl) (fun _ _ _ h => h) (by rfl) (fun w hSw => by (try dsimp only at hSw); have hh := (D _ hSw).1; have y1 := hh.at (i := 1) rfl; go_simp; try rfl) hHeld ?_
                        go_frame
                        refine takeH (i := 11) (some 99) rfl rfl (by kernel_rfl) (by kernel_rfl) (by kernel_rfl) (fun _ _ _ h => h) (by rfl) (fun w hSw => by (try dsimp only at hSw); go_simp; try rfl) hHeld ?_
                        go_frame
                        refine takeH (i := 12) (some 100) rfl rfl (by kernel_rfl) (by kernel_rfl) (by kernel_rfl) (fun _ _ _ h => h) (by rfl) (fun w hSw => by (try dsimp only at hSw); have hh := (D _ hSw).1; have y3 := hh.at (i := 3) rfl; have y4 := hh.at (i := 4) rfl; have y5 := hh.at (i := 5) rfl; go_simp; try rfl) hHeld ?_
                        go_frame
                        refine takeH (i := 13) (some 101) rfl rfl (by kernel_rfl) (by kernel_rfl) (by kernel_rfl) (fun _ _ _ h => h) (by rfl) (fun w hSw => by (try dsimp only at hSw); go_simp; try rfl) hHeld ?_
                        go_frame
                        refine takeH (i := 14) (some 102) rfl rfl (by kernel_rfl) (by kernel_rfl) (by kernel_rfl) (fun _ _ _ h => h) (by rfl) (fun w hSw => by (try dsimp only at hSw); have hh := (D _ hSw).1; have y6 := hh.at (i := 6) rfl; have y7 := hh.at (i := 7) rfl; have y8 := hh.at (i := 8) rfl; go_simp; try rfl) hHeld ?_
                        go_frame
                        refine wpAnyH_ready (rs := [7]) (by kernel_rfl) (by simp) (AllReadyH.cons rfl (fun K hK => ?_) AllReadyH.nil)
                        go_simp
                        have hvd : Below V5.heap.size V5 V5.drew := ab_drew (Below.refl _ _)
                        have zvd : V5.heap.size ≤ V5.drew.heap.size := Nat.le_refl _
                        generalize V5.drew = V6 at *
                        refine (refused_any W1.heap.size b mp ma R okp bb og V6 (hR5.keep hvd)).mono ?_
                        rintro e W6 ⟨rfl, hR6, F6⟩
                        show K _ _
                        have FX6 : Frm (bkx b mp ma d g1 g2 g3) V5 W6 := (frm_below hvd).trans (F6.mono fun k hk => .inl hk)
                        have hD6 := (hD5.keep hvd).frm F6 (fun k hk => by have := hXlo k (.inl hk); omega) (fun h => by rcases h with e | e | e <;> omega) (fun h => by rcases h with e | e | e <;> omega) (fun h => by rcases h with e | e | e <;> omega) (fun h => by rcases h with e | e | e <;> omega)
                        refine hK.out _ _ FX6 (fun hHeld => ?_)
                        clear hK K
                        refine wpAnyH_ready (rs := [15]) (by kernel_rfl) (by simp) (AllReadyH.cons rfl (fun K hK => ?_) AllReadyH.nil)
                        go_simp
                        refine (rrefused_any W W2.heap.size d g1 g2 g3 R okp bb og W6 hD6).mono ?_
                        rintro e W7 ⟨rfl, hD7, F7⟩
                        show K _ _
                        have FX7 := FX6.trans (F7.mono fun k hk => (.inr hk : bkx b mp ma d g1 g2 g3 k))
                        have hR7 := hR6.frm F7 hD6.noI.g (fun h => by rcases h with e | e | e | e <;> omega) (fun h => by rcases h with e | e | e | e <;> omega) (fun h => by rcases h with e | e | e | e <;> omega)
                        refine hK.out _ _ FX7 (fun hHeld => ?_)
                        clear hK K
                        refine takeH (i := 16) (some 16) rfl rfl (by kernel_rfl) (by kernel_rfl) (by kernel_rfl) (fun _ _ _ h => h) (by rfl) (fun w hSw => by (try dsimp only at hSw); go_simp; try rfl) hHeld ?_
                        go_frame
                        refine takeH (i := 17) (some 17) rfl rfl (by kernel_rfl) (by kernel_rfl) (by kernel_rfl) (fun _ _ _ h => h) (by rfl) (fun w hSw => by (try dsimp only at hSw); go_simp; try rfl) hHeld ?_
                        go_frame
                        refine wpAnyH_done (by kernel_rfl) ?_ _
                        go_wp2_with fail
                        go_meet
                        case rel => exact ⟨_, _, rfl, rfl, hR7, hD7, FX7⟩
                  case rest =>
                    obtain ⟨y, R', rfl, rfl, hR7, hD7, FX⟩ := hcut
                    obtain ⟨W7, hW7⟩ : ∃ W, W = wc := ⟨_, rfl⟩
                    subst hW7
                    obtain ⟨hO7, hP7⟩ := D _ FX
                    have hX7 := hX5.frm FX (fun h => by have := hXlo _ h; omega)
                    have hNoX : NoI (bkx b mp ma d g1 g2 g3) V5 := by
                      rintro k (hk | hk)
                      · exact hR5.noI k hk
                      · exact hD5.noI k hk
                    have I7 := I5.frm FX hNoX
                    have hw7 : Below W'.heap.size W' W7 := hw5.trans (FX.below (by omega) (fun k hk => by have := hXlo k hk; omega))
                    have z57 := FX.size
                    have sr7 := sr0.keep (h0.trans (hw7.mono h0.size))
                    have t6 : ∀ U, Below W7.heap.size W7 U → U.cell? ⟨V1.heap.size, 6, none⟩ = some (.slice q4 nv c4) := hP7.cellV (i := 6) rfl
                    have t15 : ∀ U, Below W7.heap.size W7 U → U.cell? ⟨Wr.heap.size, 15, none⟩ = some (.slice qv nv cv) := hO7.cellV (i := 15) rfl
                    have hbv := Below.refl W7.heap.size W7
                    clear hO5 hP5 hX5 hw5 hD5 hR5 I5 D FX hNoX
                    go_wp2_with fail
                    refine (gints_any _ _ ol ol _ I7.is sr7 (by omega) (by omega)).mono ?_
                    rintro e W8 ⟨rfl, b8⟩
                    rw [decide_eq_true (rfl : ol = ol)]
                    have hR8 := hR7.keep b8
                    have hD8 := hD7.keep b8
                    have hX8 := hX7.keep b8
                    have hP8 := hP7.keep b8
                    have hw8 := ab_trans hw7 b8
                    have O8 := I7.keep b8
                    have z78 := b8.size
                    unfold Io at O8
                    rw [hnv] at O8
                    have hbv := b8
                    clear hR7 hD7 hX7 hP7 hw7 I7 hO7 sr7 t15
                    go_wp2_with fail
                    have q8 : W8.cell? ⟨V1.heap.size, 6, none⟩ = some (.slice q4 nv c4) := hP8.at (i := 6) rfl
                    clear t6 hbv
                    go_loopw [145] (fun i wx => ∃ (jj : Nat) (ys : List Int), jj ≤ nv ∧ i = .int .i64 (jj : Int) ∧ wx.ownsRow V2.heap.size 3 1 (.slice q4 nv c4) nv (ints ys) ∧ Onl (.slice q4 nv c4) W8 wx) (fun i _ => nv - (intOf i).toNat)
                    case atStart => exact ⟨0, ol, by omega, rfl, O8, Onl.refl _ _⟩
                    case round =>
                      obtain ⟨jj, ys, hjj, rfl, hoo, hk1⟩ := hrel
                      obtain ⟨Wx, hWx⟩ : ∃ W, W = wr := ⟨_, rfl⟩
                      subst hWx
                      by_cases cj2 : jj = nv
                      · have hFx : Frm G W8 Wx := by rw [hGd]; exact frm_onl hk1
                        have hRx := hR8.frm hFx (fun k hk _ => hk) (fun h => by have := hGlo _ h; omega) (fun h => by have := hGlo _ h; omega) (fun h => by have := hGlo _ h; omega)
                        have hDx := hD8.frm hFx (fun k hk => by have := hGlo k hk; omega) (fun h => by have := hGlo _ h; omega) (fun h => by have := hGlo _ h; omega) (fun h => by have := hGlo _ h; omega) (fun h => by have := hGlo _ h; omega)
                        have hXx := hX8.frm hFx (fun h => by have := hGlo _ h; omega)
                        have hwx : Below W'.heap.size W' Wx := hw8.trans (hFx.below (by omega) (fun k hk => by have := hGlo k hk; omega))
                        have zx := hFx.size
                        have z9 : (y != y) = false := bne_b y
                        have i9 : ¬ (jj : Int) < (nv : Int) := by omega
                        have i10 : ¬ jj < nv := by omega
                        clear hoo hk1 hR8 hD8 hX8 hw8 hP8 O8 q8 hFx cj2
                        go_wp2_with fail
                        refine (rsame11_any W W1.heap.size b mp ma W2.heap.size d g1 g2 g3 R' Wx hRx hDx).mono ?_
                        rintro e W9 ⟨rfl, b9⟩
                        have z99 := b9.size
                        go_wp2_with fail
                        exact ⟨⟨j + 1, R', by omega, rfl, (hRx.keep b9).up (fun k h => h.elim), hDx.keep b9, hXx.keep b9, ab_trans hwx b9, by omega⟩, by simp only [intOf]; omega⟩
                      · have hjn2 : jj < nv := by omega
                        have hji2 : (jj : Int) < (nv : Int) := by omega
                        have q6 : Wx.cell? ⟨V1.heap.size, 6, none⟩ = some (.slice q4 nv c4) := (hk1.blk hP8 (blk_own O8 hP8 (by decide))).at (i := 6) rfl
                        obtain ⟨gg, cap4, ee, hbb, hgg, hcc, hmm, -⟩ := own_cells hoo (fun e => by cases e; omega)
                        have hys := owns_len hoo
                        clear hR8 hD8 hX8 hw8 hP8 O8 q8
                        cases ee
                        have dd := hoo.cellAt jj (by omega)
                        have fz := hoo.frozenAt jj
                        obtain ⟨z, hzz⟩ : ∃ z, ys[jj]? = some z := ⟨ys[jj], List.getElem?_eq_getElem (by omega)⟩
                        have hu9 : (ints ys)[jj]? = some (.int .i64 z) := by rw [ints_at, hzz]; rfl
                        rw [hu9] at dd
                        go_wp2_with fail
                        have hst := (hoo.stored jj (.int .i64 (-1))).1
                        rw [show (ints ys).set jj (.int .i64 (-1)) = ints (ys.set jj (-1)) from by simp [ints, List.map_set]] at hst
                        exact ⟨⟨jj + 1, _, by omega, rfl, hst, hk1.set rfl _ _⟩, by simp only [intOf]; omega⟩
            · have i1 : 200 < (nv : Int) := by omega
              have i2 : 200 < nv := by omega
              go_wp2_with fail
              go_ret
              exact ⟨rfl, ab_trans hwr hbV⟩
    · have i3 : 200 < (n1 : Int) + (n2 : Int) := by omega
      have i4 : 200 < n1 + n2 := by omega
      go_wp2_with fail
      go_ret
      exact ⟨rfl, hw1⟩
  · have i1 : 300 < (n : Int) := by omega
    have i2 : 300 < n := by omega
    go_wp2_with fail
    go_ret
    exact ⟨rfl, hw1⟩
set_option maxHeartbeats 1000000 in
theorem walk {W : World} (x : PlD) (q : Option Addr) (n cap g off : Nat) (os : List OpD) (zo : IsZ W x.vo x.o) (zn : IsZ W x.vn x.m) (Z : OpRow W q n cap g off os) :
    Calls Try.prog 3 #[.agg (plC x (.slice q n cap))] W fun e w' => e = .returned (.bool true) ∧ Below W.heap.size W w' := by
  obtain ⟨q1, c1, e⟩ := zo.1.form
  obtain ⟨q2, c2, e'⟩ := zn.1.form
  obtain ⟨xn, xb, xk, vo, xo, vn, xm⟩ := x
  dsimp only at e e' zo zn
  subst e
  subst e'
  obtain ⟨n1, hn1⟩ : ∃ n, xo.length = n := ⟨_, rfl⟩
  obtain ⟨n2, hn2⟩ : ∃ n, xm.length = n := ⟨_, rfl⟩
  rw [hn1] at zo ⊢
  rw [hn2] at zn ⊢
  go_enter Try.func3, Try.ntmps3
  go_upto_region 1 with fail
  obtain ⟨A, hAe, hX, hw⟩ := blk1 W (plC ⟨xn, xb, xk, .slice q1 n1 c1, xo, .slice q2 n2 c2, xm⟩ (.slice q n cap)) 29
  rw [show W.alloc (.cells _ 29) = A from hAe]
  clear hAe
  have c0 : A.cell? ⟨W.heap.size, 0, none⟩ = some (.int .i64 xn) := hX.at (i := 0) rfl
  have c1' : A.cell? ⟨W.heap.size, 1, none⟩ = some (.int .i64 xb.n) := hX.at (i := 1) rfl
  have c2' : A.cell? ⟨W.heap.size, 2, none⟩ = some (.int .i64 xb.nd) := hX.at (i := 2) rfl
  have c3 : A.cell? ⟨W.heap.size, 3, none⟩ = some (.int .i64 xb.lf) := hX.at (i := 3) rfl
  have c4 : A.cell? ⟨W.heap.size, 4, none⟩ = some (.int .i64 xk) := hX.at (i := 4) rfl
  have c5 : A.cell? ⟨W.heap.size, 5, none⟩ = some (.slice q1 n1 c1) := hX.at (i := 5) rfl
  have c6 : A.cell? ⟨W.heap.size, 6, none⟩ = some (.slice q2 n2 c2) := hX.at (i := 6) rfl
  have c7 : A.cell? ⟨W.heap.size, 7, none⟩ = some (.slice q n cap) := hX.at (i := 7) rfl
  go_wp2_with fail
  refine (plays_any xn xb xk q1 n1 c1 xo q2 n2 c2 xm q n cap g off os A hw zo zn Z).mono ?_
  rintro e W1 ⟨rfl, b1⟩
  go_wp2_with fail
  go_ret
  exact ⟨rfl, ab_trans hw b1⟩
theorem own : ownKnob Try.prog.godebug = none := by kernel_rfl
theorem laidOut : laidOutB Try.prog = true := by kernel_rfl

set_option maxRecDepth 100000 in
theorem lifted (os : Os) (started : os.Started) (H : Type) (enc : TypeId × Value → H) :
    ReturnsInHanded {} Try.checked os 3 .any (Rows.roundAnswersSpec.pre6 enc Try.prog Try.f3 Rows.roundAnswersRow.domain false) (Rows.roundAnswersSpec.post enc Try.prog Try.f3 false true false false) := by
  refine returnsInHanded_of_change_sized (C := Try.checked) own started (by kernel_rfl) Try.func3
    (ChangeSpec.witness6 (enc := enc) (C := Try.checked) false ⟨#[], #[.agg #[.int .i64 0, .int .i64 0, .int .i64 0, .int .i64 0, .int .i64 0, .slice none 0 0, .slice none 0 0, .slice none 0 0]], []⟩ 8 (by kernel_rfl) (by kernel_rfl) (by kernel_rfl) (by kernel_rfl)) ?_
  intro W base args ds gs before hval0 hW hcnd hsz _
  have hval : ∀ (j : Nat) t v, Try.f3.params[j]? = some t → args[j]? = some v → Value.okWide Try.prog W .any base t v := hval0
  have hW' := hW
  obtain ⟨p, q, hA0, hV, rfl, hfz, hnd⟩ := hW
  have hA : DataW.TrodAll enc Try.prog W 0 (fun _ => true) true Try.f3.params.toList args.toList ds p := hA0
  rw [Try.params3] at hA hval
  obtain ⟨v0, vs0, d0, ds0, p0, q0, hargs, rfl, rfl, h0, r0⟩ := trodAll_cons hA
  obtain ⟨rfl, rfl, rfl⟩ := trodAll_nil r0
  obtain rfl : args = #[v0] := by cases args; simp_all
  obtain ⟨rfl, rfl⟩ := trodVars_none hV
  have k0 := h0
  have lt0 : ∀ x ∈ p0, x.block < W.heap.size := by obtain ⟨m, hm⟩ := k0; exact DataW.trod_lt m _ _ _ hm
  obtain ⟨x0_, sq0_, sn0_, sk0_, sg0_, so0_, os0_, rfl, zo0_, zn0_, Z0_⟩ := open_played (hval 0 29 v0 rfl rfl) h0 (fun n hn => by simpa using List.all_eq_true.1 hsz n (DataW.weights_mem_each (j := 0) (t := 29) (by kernel_rfl) rfl n hn))
  clear hA0 hval0
  refine (walk x0_ sq0_ sn0_ sk0_ sg0_ so0_ os0_ zo0_ zn0_ Z0_).mono fun e W' ⟨he, bel⟩ => ?_
  subst he
  exact ⟨_, rfl, _, _, _, [], _, [], hW', trodAll_mk1 (shut_bool Try.underlying4 _), (trodAll_cons_mk (Below.trod laidOut (by kernel_rfl) (of_decide_eq_true (by kernel_rfl)) k0 bel lt0) trodAll_mk0), rfl, bel.frame _, fun h => by cases h⟩

theorem over : Rows.roundAnswersRow.holds Try.pinned (OpenSpec.ofChange Rows.roundAnswersSpec) :=
  OpenClaim.holds_of_wide 3 Try.f3 rfl rfl rfl rfl rfl rfl rfl ⟨rfl, rfl, rfl, rfl, rfl⟩ rfl rfl rfl rfl rfl (by kernel_rfl) Try.func3 (by kernel_rfl)
    (of_decide_eq_true (by kernel_rfl)) (by unfold Func.isWrapper; first | (rw [if_pos (by decide +kernel)]; kernel_rfl) | (rw [if_neg (by decide +kernel)]; exact ⟨rfl, rfl⟩))
    (fun os started H enc _ => lifted os started H enc)

theorem proved : Rows.RoundAnswersSaid := over
end Go.Proofs.Ytpcejajidhfmpaa.roundAnswers
namespace Go.Proofs.Ytpcejajidhfmpaa
theorem roundAnswers_holds : Rows.RoundAnswersSaid := roundAnswers.proved
#print axioms roundAnswers_holds
end Go.Proofs.Ytpcejajidhfmpaa
