/-
  Answers for other ballots, or of keepers that aren't there, do nothing: estuarylaw11.RoundDeaf returns true for every input; no condition.
-/
import Derived.Test.YtpcejajidhfmpaaRuG
import Derived.Test.YtpcejajidhfmpaaRuL
import Derived.Deep.CutRange
import Derived.Deep.CutBlock
import Derived.ProofKit
import Derived.OpenShut
import Derived.ChangeOld
import Derived.Below
import Derived.Lib.SmallJoins
namespace Go.Proofs.Ytpcejajidhfmpaa.roundDeaf
open Go.ChangeShapes Go.WideShapes Go.ChangeAt Go.RowKit Go.Joins
set_option linter.unusedVariables false
set_option maxRecDepth 100000

theorem e22 (w : World) : (binOp .eql 55 (Err 2) (Err 2)).run Try.prog w = .ok (.bool true) w := by kernel_rfl
theorem neBt (x y : Bt) (w : World) : (binOp .neq 23 (bV x) (bV y)).run Try.prog w = .ok (.bool (!eqB x y)) w := by
  have h : eqB x y = (decide (x.n = y.n) && (decide (x.nd = y.nd) && decide (x.lf = y.lf))) := by unfold eqB; rw [Bool.eq_iff_iff]; simp
  rw [h]
  by_cases h1 : x.n = y.n
  · by_cases h2 : x.nd = y.nd
    · by_cases h3 : x.lf = y.lf
      · simp [go_sem, h1, h2, h3]
      · simp [go_sem, h1, h2, h3]
    · simp [go_sem, h1, h2]
  · simp [go_sem, h1]
abbrev opC (o : OpD) : Array Value := #[.int .i64 o.kd, .int .i64 o.kp, .bool o.ow, .int .i64 o.b.n, .int .i64 o.b.nd, .int .i64 o.b.lf, .int .i64 o.g.n, .int .i64 o.g.nd, .int .i64 o.g.lf, .int .i64 o.p.n, .int .i64 o.p.nd, .int .i64 o.p.lf, .int .i64 o.a.n, .int .i64 o.a.nd, .int .i64 o.a.lf, o.v]
theorem met_cells {W : World} {B b mp ma : Nat} {R : Rd} (h : Rn W B b mp ma R) : (∀ V, Below W.heap.size W V → V.cell? ⟨b, 12, none⟩ = some (.int .i64 R.mt.n)) ∧ (∀ V, Below W.heap.size W V → V.cell? ⟨b, 13, none⟩ = some (.int .i64 R.mt.nd)) ∧ (∀ V, Below W.heap.size W V → V.cell? ⟨b, 14, none⟩ = some (.int .i64 R.mt.lf)) := by
  obtain ⟨vo, vn, vv, hB, -⟩ := h.mem
  exact ⟨hB.cellV (i := 12) rfl, hB.cellV (i := 13) rfl, hB.cellV (i := 14) rfl⟩
set_option maxHeartbeats 4000000 in
theorem walk {W : World} (x : PlD) (q : Option Addr) (n cap g off : Nat) (os : List OpD) (zo : IsZ W x.vo x.o) (zn : IsZ W x.vn x.m) (Z : OpRow W q n cap g off os) :
    Calls Try.prog 7 #[.agg (plC x (.slice q n cap))] W fun e w' => e = .returned (.bool true) ∧ Below W.heap.size W w' := by
  go_enter Try.func7, Try.ntmps7
  obtain ⟨q1, c1, e⟩ := zo.1.form
  obtain ⟨q2, c2, e'⟩ := zn.1.form
  obtain ⟨xn, xb, xk, vo, xo, vn, xm⟩ := x
  dsimp only at e e' zo zn
  subst e
  subst e'
  obtain ⟨n1, hn1⟩ : ∃ n, xo.length = n := ⟨_, rfl⟩
  obtain ⟨n2, hn2⟩ : ∃ n, xm.length = n := ⟨_, rfl⟩
  rw [hn1] at zo ⊢
  rw [hn2] at zn ⊢
  go_upto_region 1 with fail
  obtain ⟨A, hAe, hX, hw⟩ := blk1 W (plC ⟨xn, xb, xk, .slice q1 n1 c1, xo, .slice q2 n2 c2, xm⟩ (.slice q n cap)) 29
  rw [show W.alloc (.cells _ 29) = A from hAe]
  clear hAe
  go_upto_region 3 with (go_at_call 9; refine (alive11_any _).mono ?_; rintro e W1 ⟨rfl, b1⟩)
  have hX1 := hX.keep b1
  have hw1 := ab_trans hw b1
  clear hX hw b1
  have c0 : ∀ V, Below W1.heap.size W1 V → V.cell? ⟨W.heap.size, 0, none⟩ = some (.int .i64 xn) := hX1.cellV (i := 0) rfl
  have c1' : ∀ V, Below W1.heap.size W1 V → V.cell? ⟨W.heap.size, 1, none⟩ = some (.int .i64 xb.n) := hX1.cellV (i := 1) rfl
  have c2' : ∀ V, Below W1.heap.size W1 V → V.cell? ⟨W.heap.size, 2, none⟩ = some (.int .i64 xb.nd) := hX1.cellV (i := 2) rfl
  have c3 : ∀ V, Below W1.heap.size W1 V → V.cell? ⟨W.heap.size, 3, none⟩ = some (.int .i64 xb.lf) := hX1.cellV (i := 3) rfl
  have c4 : ∀ V, Below W1.heap.size W1 V → V.cell? ⟨W.heap.size, 4, none⟩ = some (.int .i64 xk) := hX1.cellV (i := 4) rfl
  have c5 : ∀ V, Below W1.heap.size W1 V → V.cell? ⟨W.heap.size, 5, none⟩ = some (.slice q1 n1 c1) := hX1.cellV (i := 5) rfl
  have c6 : ∀ V, Below W1.heap.size W1 V → V.cell? ⟨W.heap.size, 6, none⟩ = some (.slice q2 n2 c2) := hX1.cellV (i := 6) rfl
  have c7 : ∀ V, Below W1.heap.size W1 V → V.cell? ⟨W.heap.size, 7, none⟩ = some (.slice q n cap) := hX1.cellV (i := 7) rfl
  have hbv := Below.refl W1.heap.size W1
  by_cases hlen : n ≤ 200
  · have i1 : ¬ (200 < (n : Int)) := by omega
    have i2 : ¬ (200 < n) := by omega
    cases hok : begOK xn xb ⟨xk, xo, xm⟩
    · go_wp2_with fail
      refine (begin_no xn xb ⟨xk, xo, xm⟩ _ _ W1 hok (zo.1.keep hw1) (zn.1.keep hw1)).mono ?_
      rintro e W2 ⟨rfl, b2⟩
      have E1 := gne20
      have E2 := e22
      go_wp2_with fail
      go_ret
      exact ⟨rfl, ab_trans hw1 b2⟩
    · have hN : ∃ N : Nat, xn = (N : Int) := by
        unfold begOK at hok
        simp only [Bool.and_eq_true, decide_eq_true_eq] at hok
        exact ⟨xn.toNat, by omega⟩
      obtain ⟨N, rfl⟩ := hN
      go_wp2_with fail
      refine (begin_yes N xb ⟨xk, xo, xm⟩ _ _ W1 hok (zo.1.keep hw1) (zn.1.keep hw1)).mono ?_
      rintro e W2 ⟨b, mp, ma, rfl, hR, b2⟩
      have E1 := neq00
      go_upto_region 8 with fail
      have hbv := b2
      go_wp2_with fail
      have hRb := hR
      clear hbv E1 i1 i2
      go_loopw [32] (fun iv wr => ∃ j : Nat, j ≤ n ∧ iv = .int .i64 (j : Int) ∧ Below W2.heap.size W2 wr) (fun iv _ => n - (intOf iv).toNat)
      case atStart => exact ⟨0, by omega, rfl, Below.refl _ _⟩
      case round =>
        obtain ⟨j, hj, rfl, hb⟩ := hrel
        have hbw : Below W.heap.size W wr := ab_trans hw1 (ab_trans b2 hb)
        have hRw := hR.keep hb
        have hb1 := ab_trans b2 hb
        by_cases cj : j = n
        · subst cj
          obtain ⟨-, r1, r2, r3, -, -, -⟩ := hear_cells hRw
          have hbv := Below.refl wr.heap.size wr
          have E3 : ∀ w, _ := eqBt xb xb
          rw [show eqB xb xb = true from eqB_iff.2 rfl] at E3
          have k1 : ∀ y : Cls wr, y.val.cell? ⟨W.heap.size, 1, none⟩ = some (.int .i64 xb.n) := fun y => c1' _ (ab_trans hb1 y.prop)
          have k2 : ∀ y : Cls wr, y.val.cell? ⟨W.heap.size, 2, none⟩ = some (.int .i64 xb.nd) := fun y => c2' _ (ab_trans hb1 y.prop)
          have k3 : ∀ y : Cls wr, y.val.cell? ⟨W.heap.size, 3, none⟩ = some (.int .i64 xb.lf) := fun y => c3 _ (ab_trans hb1 y.prop)
          have HZ := cls_some wr
          go_upto_region 23 with fail
          refine wp_region_below (by kernel_rfl) (by kernel_rfl) ?_
          repeat (go_big_quiet_step (first
            | (go_at_call 15; exact calls_below (rballot_any b xb _ (r1 _ (Cls.prop _)) (r2 _ (Cls.prop _)) (r3 _ (Cls.prop _))))))
          refine wpQuiet_nil ?_
          rintro _ ⟨y, rfl⟩
          obtain ⟨W4, b4⟩ := y
          dsimp only
          clear k1 k2 k3 HZ
          go_wp2_with fail
          go_ret
          exact ⟨rfl, ab_trans hbw b4⟩
        · have hjn : j < n := by omega
          have hji : (j : Int) < (n : Int) := by omega
          have hlen2 := Z.len
          obtain ⟨⟨okd, okp, oow, ob, og, op, oa, ov, ol⟩, ho⟩ : ∃ o, os[j]? = some o := ⟨os[j]'(by omega), List.getElem?_eq_getElem _⟩
          have hg := Z.lt (by omega)
          obtain ⟨d0, d1, d2, d3, d4, d5, d6, d7, d8, d9, d10, d11, d12, d13, d14, d15, sr⟩ := (Z.row j _ ho).keep hg hbw
          obtain rfl := Z.ptr (by omega)
          have hfit := Z.fits
          have hmx := Z.max
          dsimp only at d0 d1 d2 d3 d4 d5 d6 d7 d8 d9 d10 d11 d12 d13 d14 d15 sr
          obtain ⟨qv, cv, e⟩ := sr.form
          subst e
          obtain ⟨nv, hnv⟩ : ∃ n, ol.length = n := ⟨_, rfl⟩
          rw [hnv] at d15
          go_upto_region 11 with fail
          obtain ⟨V, hE, hO, hbV⟩ := blk1 wr (opC ⟨okd, okp, oow, ob, og, op, oa, .slice qv nv cv, ol⟩) 68
          rw [show wr.alloc (.cells _ 68) = V from hE]
          clear hE d0 d1 d2 d3 d4 d5 d6 d7 d8 d9 d10 d11 d12 d13 d14 d15
          have hbVx := ab_trans hb1 hbV
          have hRV := hRw.keep hbV
          have HQ : ∀ w, _ := eqBt ob xb
          have y0 : ∀ U, Below V.heap.size V U → U.cell? ⟨wr.heap.size, 0, none⟩ = some (.int .i64 okd) := hO.cellV (i := 0) rfl
          have y1 : ∀ U, Below V.heap.size V U → U.cell? ⟨wr.heap.size, 1, none⟩ = some (.int .i64 okp) := hO.cellV (i := 1) rfl
          have y2 : ∀ U, Below V.heap.size V U → U.cell? ⟨wr.heap.size, 2, none⟩ = some (.bool oow) := hO.cellV (i := 2) rfl
          have y3 : ∀ U, Below V.heap.size V U → U.cell? ⟨wr.heap.size, 3, none⟩ = some (.int .i64 ob.n) := hO.cellV (i := 3) rfl
          have y4 : ∀ U, Below V.heap.size V U → U.cell? ⟨wr.heap.size, 4, none⟩ = some (.int .i64 ob.nd) := hO.cellV (i := 4) rfl
          have y5 : ∀ U, Below V.heap.size V U → U.cell? ⟨wr.heap.size, 5, none⟩ = some (.int .i64 ob.lf) := hO.cellV (i := 5) rfl
          have y6 : ∀ U, Below V.heap.size V U → U.cell? ⟨wr.heap.size, 6, none⟩ = some (.int .i64 og.n) := hO.cellV (i := 6) rfl
          have y7 : ∀ U, Below V.heap.size V U → U.cell? ⟨wr.heap.size, 7, none⟩ = some (.int .i64 og.nd) := hO.cellV (i := 7) rfl
          have y8 : ∀ U, Below V.heap.size V U → U.cell? ⟨wr.heap.size, 8, none⟩ = some (.int .i64 og.lf) := hO.cellV (i := 8) rfl
          have y9 : ∀ U, Below V.heap.size V U → U.cell? ⟨wr.heap.size, 9, none⟩ = some (.int .i64 op.n) := hO.cellV (i := 9) rfl
          have y10 : ∀ U, Below V.heap.size V U → U.cell? ⟨wr.heap.size, 10, none⟩ = some (.int .i64 op.nd) := hO.cellV (i := 10) rfl
          have y11 : ∀ U, Below V.heap.size V U → U.cell? ⟨wr.heap.size, 11, none⟩ = some (.int .i64 op.lf) := hO.cellV (i := 11) rfl
          have y12 : ∀ U, Below V.heap.size V U → U.cell? ⟨wr.heap.size, 12, none⟩ = some (.int .i64 oa.n) := hO.cellV (i := 12) rfl
          have y13 : ∀ U, Below V.heap.size V U → U.cell? ⟨wr.heap.size, 13, none⟩ = some (.int .i64 oa.nd) := hO.cellV (i := 13) rfl
          have y14 : ∀ U, Below V.heap.size V U → U.cell? ⟨wr.heap.size, 14, none⟩ = some (.int .i64 oa.lf) := hO.cellV (i := 14) rfl
          have y15 : ∀ U, Below V.heap.size V U → U.cell? ⟨wr.heap.size, 15, none⟩ = some (.slice qv nv cv) := hO.cellV (i := 15) rfl
          have hbv := Below.refl V.heap.size V
          have hbv2 : Below W2.heap.size W2 V := ab_trans hb hbV
          obtain ⟨hit, hhit⟩ : ∃ hit, hearB (begR N xb ⟨xk, xo, xm⟩) okp ob = hit := ⟨_, rfl⟩
          have hhit2 : (eqB ob xb && (decide (0 ≤ okp) && decide (okp < (N : Int)))) = hit := hhit
          go_cut [52] from 36 to 51 (fun s wc => s = .bool hit ∧ wc = V)
          case first =>
            cases h1 : eqB ob xb
            · rw [h1] at HQ hhit2
              have hf : hit = false := by rw [← hhit2]; rfl
              clear hhit2 hhit
              subst hf
              go_wp2_with fail
              go_meet
              case rel => exact ⟨rfl, rfl⟩
            · rw [h1] at HQ hhit2
              by_cases h2 : 0 ≤ okp
              · rw [decide_eq_true h2] at hhit2
                have h3 : decide (okp < (N : Int)) = hit := by simpa using hhit2
                clear hhit2 hhit
                go_wp2_with fail
                go_meet
                case rel => exact ⟨rfl, rfl⟩
              · rw [decide_eq_false h2] at hhit2
                have hf : hit = false := by rw [← hhit2]; rfl
                clear hhit2 hhit
                subst hf
                go_wp2_with fail
                go_meet
                case rel => exact ⟨rfl, rfl⟩
          case rest =>
            obtain ⟨rfl, hV⟩ := hcut
            subst wc
            cases hit
            · have hdf := hhit
              clear hhit2 HQ
              go_upto_block 2 with fail
              go_cut [7] from 61 to 86 (fun s wc => s = .bool false ∧ Below V.heap.size V wc)
              case first =>
                by_cases k0 : okd = 0
                · have z0 : (okd == 0) = true := by simp [k0]
                  clear k0
                  go_wp2_with fail
                  refine (promise_deaf W1.heap.size b mp ma _ okp ob op oa qv nv cv _ hRV hdf).mono ?_
                  rintro e W4 ⟨rfl, b4⟩
                  go_wp2_with fail
                  go_meet
                  case rel => exact ⟨rfl, b4⟩
                · have z0 : (okd == 0) = false := by simp [k0]
                  by_cases k1 : okd = 1
                  · have z1 : (okd == 1) = true := by simp [k1]
                    clear k1
                    go_wp2_with fail
                    refine (accepted_deaf W1.heap.size b mp ma _ okp ob _ hRV hdf).mono ?_
                    rintro e W4 ⟨rfl, b4⟩
                    go_wp2_with fail
                    go_meet
                    case rel => exact ⟨rfl, b4⟩
                  · have z1 : (okd == 1) = false := by simp [k1]
                    go_wp2_with fail
                    refine (refused_deaf W1.heap.size b mp ma _ okp ob og _ hRV hdf).mono ?_
                    rintro e W4 ⟨rfl, b4⟩
                    go_wp2_with fail
                    go_meet
                    case rel => exact ⟨rfl, b4⟩
              case rest =>
                obtain ⟨rfl, b4⟩ := hcut
                have hR4 := hRV.keep b4
                have s4 := rn_stage hR4 (s := 1) rfl
                obtain ⟨vv, d10, -, iv⟩ := rn_val hR4
                have iv0 : Is wc vv [] := iv.is
                obtain ⟨m12, m13, m14⟩ := met_cells hR4
                have hb4 := ab_trans hbv2 b4
                clear hO y0 y1 y3 y4 y5 y6 y7 y8 y9 y10 y11 y12 y13 y14 y15
                go_wp2_with fail
                refine (rstage_any b 1 _ s4).mono ?_
                rintro e Z1 ⟨rfl, hZ1⟩
                subst Z1
                go_wp2_with fail
                refine (rvalue_any b vv [] _ d10 iv0 (by decide)).mono ?_
                rintro e W5 ⟨v5, rfl, hO5, b5⟩
                obtain ⟨q5, c5, e5⟩ := hO5.is.form
                subst e5
                go_wp2_with fail
                refine (rmet_any b zB _ (m12 _ b5) (m13 _ b5) (m14 _ b5)).mono ?_
                rintro e W6 ⟨rfl, b6⟩
                have E3 : ∀ w, _ := neBt zB zB
                rw [show eqB zB zB = true by decide] at E3
                go_wp2_with fail
                exact ⟨⟨j + 1, by omega, rfl, ab_trans (ab_trans hb4 b5) b6⟩, by simp only [intOf]; omega⟩
            · obtain ⟨kp, rfl, hkp, -⟩ := hear_lt hhit
              have hkp : kp < N := hkp
              have hN5 : N ≤ 5 := hR.ok.n5
              have hdf : hearB (begR N xb ⟨xk, xo, xm⟩) ((kp : Int) + (N : Int)) ob = false := by
                unfold hearB
                rw [show decide ((kp : Int) + (N : Int) < ((begR N xb ⟨xk, xo, xm⟩).n : Int)) = false from decide_eq_false (by show ¬ ((kp : Int) + (N : Int) < (N : Int)); omega)]
                simp
              clear hhit2 HQ hhit
              have f1 := hO.frozen 1
              go_upto_region 13 with fail
              have hO2 : Blk (V.setCell ⟨wr.heap.size, 1, none⟩ (.int .i64 ((kp : Int) + (N : Int)))) wr.heap.size (opC ⟨okd, (kp : Int) + (N : Int), oow, ob, og, op, oa, .slice qv nv cv, ol⟩) 68 := hO.set 1 _
              have hbV2 := ab_chg hbV (chg_set V wr.heap.size 1 (.int .i64 ((kp : Int) + (N : Int)))) (Nat.le_refl _)
              generalize V.setCell ⟨wr.heap.size, 1, none⟩ (.int .i64 ((kp : Int) + (N : Int))) = V2 at hO2 hbV2 ⊢
              clear y0 y1 y2 y3 y4 y5 y6 y7 y8 y9 y10 y11 y12 y13 y14 y15 hO hbv hRV hbVx hbv2 f1
              have hO := hO2
              have hRV := hRw.keep hbV2
              have hbVx := ab_trans hb1 hbV2
              have hbv3 : Below W2.heap.size W2 V2 := ab_trans hb hbV2
              have hbv := Below.refl V2.heap.size V2
              have y0 : ∀ U, Below V2.heap.size V2 U → U.cell? ⟨wr.heap.size, 0, none⟩ = some (.int .i64 okd) := hO2.cellV (i := 0) rfl
              have y1 : ∀ U, Below V2.heap.size V2 U → U.cell? ⟨wr.heap.size, 1, none⟩ = some (.int .i64 ((kp : Int) + (N : Int))) := hO2.cellV (i := 1) rfl
              have y2 : ∀ U, Below V2.heap.size V2 U → U.cell? ⟨wr.heap.size, 2, none⟩ = some (.bool oow) := hO2.cellV (i := 2) rfl
              have y3 : ∀ U, Below V2.heap.size V2 U → U.cell? ⟨wr.heap.size, 3, none⟩ = some (.int .i64 ob.n) := hO2.cellV (i := 3) rfl
              have y4 : ∀ U, Below V2.heap.size V2 U → U.cell? ⟨wr.heap.size, 4, none⟩ = some (.int .i64 ob.nd) := hO2.cellV (i := 4) rfl
              have y5 : ∀ U, Below V2.heap.size V2 U → U.cell? ⟨wr.heap.size, 5, none⟩ = some (.int .i64 ob.lf) := hO2.cellV (i := 5) rfl
              have y6 : ∀ U, Below V2.heap.size V2 U → U.cell? ⟨wr.heap.size, 6, none⟩ = some (.int .i64 og.n) := hO2.cellV (i := 6) rfl
              have y7 : ∀ U, Below V2.heap.size V2 U → U.cell? ⟨wr.heap.size, 7, none⟩ = some (.int .i64 og.nd) := hO2.cellV (i := 7) rfl
              have y8 : ∀ U, Below V2.heap.size V2 U → U.cell? ⟨wr.heap.size, 8, none⟩ = some (.int .i64 og.lf) := hO2.cellV (i := 8) rfl
              have y9 : ∀ U, Below V2.heap.size V2 U → U.cell? ⟨wr.heap.size, 9, none⟩ = some (.int .i64 op.n) := hO2.cellV (i := 9) rfl
              have y10 : ∀ U, Below V2.heap.size V2 U → U.cell? ⟨wr.heap.size, 10, none⟩ = some (.int .i64 op.nd) := hO2.cellV (i := 10) rfl
              have y11 : ∀ U, Below V2.heap.size V2 U → U.cell? ⟨wr.heap.size, 11, none⟩ = some (.int .i64 op.lf) := hO2.cellV (i := 11) rfl
              have y12 : ∀ U, Below V2.heap.size V2 U → U.cell? ⟨wr.heap.size, 12, none⟩ = some (.int .i64 oa.n) := hO2.cellV (i := 12) rfl
              have y13 : ∀ U, Below V2.heap.size V2 U → U.cell? ⟨wr.heap.size, 13, none⟩ = some (.int .i64 oa.nd) := hO2.cellV (i := 13) rfl
              have y14 : ∀ U, Below V2.heap.size V2 U → U.cell? ⟨wr.heap.size, 14, none⟩ = some (.int .i64 oa.lf) := hO2.cellV (i := 14) rfl
              have y15 : ∀ U, Below V2.heap.size V2 U → U.cell? ⟨wr.heap.size, 15, none⟩ = some (.slice qv nv cv) := hO2.cellV (i := 15) rfl
              clear hO2
              go_upto_block 2 with fail
              go_cut [7] from 61 to 86 (fun s wc => s = .bool false ∧ Below V2.heap.size V2 wc)
              case first =>
                by_cases k0 : okd = 0
                · have z0 : (okd == 0) = true := by simp [k0]
                  clear k0
                  go_wp2_with fail
                  refine (promise_deaf W1.heap.size b mp ma _ ((kp : Int) + (N : Int)) ob op oa qv nv cv _ hRV hdf).mono ?_
                  rintro e W4 ⟨rfl, b4⟩
                  go_wp2_with fail
                  go_meet
                  case rel => exact ⟨rfl, b4⟩
                · have z0 : (okd == 0) = false := by simp [k0]
                  by_cases k1 : okd = 1
                  · have z1 : (okd == 1) = true := by simp [k1]
                    clear k1
                    go_wp2_with fail
                    refine (accepted_deaf W1.heap.size b mp ma _ ((kp : Int) + (N : Int)) ob _ hRV hdf).mono ?_
                    rintro e W4 ⟨rfl, b4⟩
                    go_wp2_with fail
                    go_meet
                    case rel => exact ⟨rfl, b4⟩
                  · have z1 : (okd == 1) = false := by simp [k1]
                    go_wp2_with fail
                    refine (refused_deaf W1.heap.size b mp ma _ ((kp : Int) + (N : Int)) ob og _ hRV hdf).mono ?_
                    rintro e W4 ⟨rfl, b4⟩
                    go_wp2_with fail
                    go_meet
                    case rel => exact ⟨rfl, b4⟩
              case rest =>
                obtain ⟨rfl, b4⟩ := hcut
                have hR4 := hRV.keep b4
                have s4 := rn_stage hR4 (s := 1) rfl
                obtain ⟨vv, d10, -, iv⟩ := rn_val hR4
                have iv0 : Is wc vv [] := iv.is
                obtain ⟨m12, m13, m14⟩ := met_cells hR4
                have hb4 := ab_trans hbv3 b4
                clear hO y0 y1 y3 y4 y5 y6 y7 y8 y9 y10 y11 y12 y13 y14 y15
                go_wp2_with fail
                refine (rstage_any b 1 _ s4).mono ?_
                rintro e Z1 ⟨rfl, hZ1⟩
                subst Z1
                go_wp2_with fail
                refine (rvalue_any b vv [] _ d10 iv0 (by decide)).mono ?_
                rintro e W5 ⟨v5, rfl, hO5, b5⟩
                obtain ⟨q5, c5, e5⟩ := hO5.is.form
                subst e5
                go_wp2_with fail
                refine (rmet_any b zB _ (m12 _ b5) (m13 _ b5) (m14 _ b5)).mono ?_
                rintro e W6 ⟨rfl, b6⟩
                have E3 : ∀ w, _ := neBt zB zB
                rw [show eqB zB zB = true by decide] at E3
                go_wp2_with fail
                exact ⟨⟨j + 1, by omega, rfl, ab_trans (ab_trans hb4 b5) b6⟩, by simp only [intOf]; omega⟩
  · have i1 : 200 < (n : Int) := by omega
    have i2 : 200 < n := by omega
    go_wp2_with fail
    go_ret
    exact ⟨rfl, hw1⟩
theorem own : ownKnob Try.prog.godebug = none := by kernel_rfl
theorem laidOut : laidOutB Try.prog = true := by kernel_rfl

set_option maxRecDepth 100000 in
theorem lifted (os : Os) (started : os.Started) (H : Type) (enc : TypeId × Value → H) :
    ReturnsInHanded {} Try.checked os 7 .any (Rows.roundDeafSpec.pre6 enc Try.prog Try.f7 Rows.roundDeafRow.domain false) (Rows.roundDeafSpec.post enc Try.prog Try.f7 false true false false) := by
  refine returnsInHanded_of_change_sized (C := Try.checked) own started (by kernel_rfl) Try.func7
    (ChangeSpec.witness6 (enc := enc) (C := Try.checked) false ⟨#[], #[.agg #[.int .i64 0, .int .i64 0, .int .i64 0, .int .i64 0, .int .i64 0, .slice none 0 0, .slice none 0 0, .slice none 0 0]], []⟩ 8 (by kernel_rfl) (by kernel_rfl) (by kernel_rfl) (by kernel_rfl)) ?_
  intro W base args ds gs before hval0 hW hcnd hsz _
  have hval : ∀ (j : Nat) t v, Try.f7.params[j]? = some t → args[j]? = some v → Value.okWide Try.prog W .any base t v := hval0
  have hW' := hW
  obtain ⟨p, q, hA0, hV, rfl, hfz, hnd⟩ := hW
  have hA : DataW.TrodAll enc Try.prog W 0 (fun _ => true) true Try.f7.params.toList args.toList ds p := hA0
  rw [Try.params7] at hA hval
  obtain ⟨v0, vs0, d0, ds0, p0, q0, hargs, rfl, rfl, h0, r0⟩ := trodAll_cons hA
  obtain ⟨rfl, rfl, rfl⟩ := trodAll_nil r0
  obtain rfl : args = #[v0] := by cases args; simp_all
  obtain ⟨rfl, rfl⟩ := trodVars_none hV
  have k0 := h0
  have lt0 : ∀ x ∈ p0, x.block < W.heap.size := by obtain ⟨m, hm⟩ := k0; exact DataW.trod_lt m _ _ _ hm
  obtain ⟨x0_, sq0_, sn0_, sk0_, sg0_, so0_, os0_, rfl, zo0_, zn0_, Z0_⟩ := open_played (hval 0 29 v0 rfl rfl) h0 (fun n hn => by simpa using List.all_eq_true.1 hsz n (DataW.weights_mem_each (j := 0) (t := 29) (by kernel_rfl) rfl n hn))
  clear hA0 hval0
  refine (walk x0_ sq0_ sn0_ sk0_ sg0_ so0_ os0_ zo0_ zn0_ Z0_).mono fun e W' ⟨he, bel⟩ => ?_
  subst he
  exact ⟨_, rfl, _, _, _, [], _, [], hW', trodAll_mk1 (shut_bool Try.underlying4 _), (trodAll_cons_mk (Below.trod laidOut (by kernel_rfl) (of_decide_eq_true (by kernel_rfl)) k0 bel lt0) trodAll_mk0), rfl, bel.frame _, fun h => by cases h⟩

theorem over : Rows.roundDeafRow.holds Try.pinned (OpenSpec.ofChange Rows.roundDeafSpec) :=
  OpenClaim.holds_of_wide 7 Try.f7 rfl rfl rfl rfl rfl rfl rfl ⟨rfl, rfl, rfl, rfl, rfl⟩ rfl rfl rfl rfl rfl (by kernel_rfl) Try.func7 (by kernel_rfl)
    (of_decide_eq_true (by kernel_rfl)) (by unfold Func.isWrapper; first | (rw [if_pos (by decide +kernel)]; kernel_rfl) | (rw [if_neg (by decide +kernel)]; exact ⟨rfl, rfl⟩))
    (fun os started H enc _ => lifted os started H enc)

theorem proved : Rows.RoundDeafSaid := over
end Go.Proofs.Ytpcejajidhfmpaa.roundDeaf
namespace Go.Proofs.Ytpcejajidhfmpaa
theorem roundDeaf_holds : Rows.RoundDeafSaid := roundDeaf.proved
#print axioms roundDeaf_holds
end Go.Proofs.Ytpcejajidhfmpaa
