/-
  A letter is delivered to a keeper (written out by wip/tools/deliver11.py).
-/
import Derived.Test.YtodmhohccclhmaaPk26
namespace Go.Proofs.Ytodmhohccclhmaa
open Go.RowKit
set_option linter.unusedVariables false
set_option maxRecDepth 100000

set_option maxHeartbeats 4000000 in
theorem deliver_ask1y (W0 : World) (wb : Nat) (P : NwP) (S : Net) (acc : Nat → Nat → Prop) (l : LD) (w : World) (h : Nw W0 w W0.heap.size wb P S) (hI : Inv acc S) (R : Rd) (hr : S.rd[l.r]? = some R) (hl : LtOK acc S (ltOf l) R) (hm : Im W0 w W0.heap.size l.rv l.l ∧ Im W0 w W0.heap.size l.vv l.m) (hsz : S.lt.length ≤ 3000) (hkd : l.kd = 1) (hq : ∀ x, S.rg[l.k]? = some x → acN x l.b l.m = 0) :
    Calls Try.prog 31 #[nptr wb, .agg (lC l)] w fun e w' => e = .returned (.tuple #[]) ∧ Dlv W0 w w' W0.heap.size wb S 5 := by
  obtain ⟨kd, lr, lk, lb, lg, lp, la, rv, ll, vv, lm⟩ := l
  dsimp only at hr hm hkd hq
  have HKD : Hid (kd = 1) := hkd
  have HQ : Hid (∀ x, S.rg[lk]? = some x → acN x lb lm = 0) := hq
  clear hkd hq
  obtain ⟨q1, c1, e⟩ := hm.1.form
  obtain ⟨q2, c2, e'⟩ := hm.2.form
  subst e
  subst e'
  obtain ⟨n1, hn1⟩ : ∃ n, ll.length = n := ⟨_, rfl⟩
  obtain ⟨n2, hn2⟩ : ∃ n, lm.length = n := ⟨_, rfl⟩
  rw [hn1, hn2] at hm ⊢
  go_enter Try.func31, Try.ntmps31
  go_upto_region 1 with fail
  obtain ⟨A, hAe, hX, hw⟩ := blk1 w (lV (kd : Int) (lr : Int) (lk : Int) lb lg lp la (.slice q1 n1 c1) (.slice q2 n2 c2)) 76
  rw [show w.alloc (.cells _ 76) = A from hAe]
  clear hAe
  have hA := h.keep hw
  obtain ⟨gd, cd, t, erv, hcd, hcm, ht, hcell, hRn⟩ := hA.round hr
  obtain ⟨c0, c1', c2', c12, hfz, hwl⟩ := hA.cells
  have hlr : lr < S.rd.length := (List.getElem?_eq_some_iff.1 hr).1
  have hlri : (lr : Int) < (S.rd.length : Int) := by omega
  have k1 : ∀ y : Cls A, y.val.cell? ⟨wb, 1, none⟩ = some (.slice (some ⟨gd, 0, none⟩) S.rd.length cd) := fun y => by rw [c1' _ y.prop, erv]
  have k2 : ∀ y : Cls A, y.val.cell? ⟨w.heap.size, 1, none⟩ = some (.int .i64 (lr : Int)) := cls_cell (hX.at (i := 1) rfl) hX.lt
  have k3 : ∀ y : Cls A, y.val.cell? ⟨gd, lr, none⟩ = some (rptr t.1) := fun y => hcell _ y.prop
  have HZ := cls_some A
  refine wp_region_below (by kernel_rfl) (by kernel_rfl) ?_
  repeat (go_big_quiet_step (fail))
  refine wpQuiet_nil ?_
  rintro _ ⟨y, rfl⟩
  obtain ⟨V, hbV⟩ := y
  dsimp only
  clear k1 k2 k3 HZ c0 c1' c2' c12 hfz hcell
  have hV := hA.keep hbV
  have hRV := hRn.keep hbV
  have hXV := hX.keep hbV
  have hwV := ab_trans hw hbV
  have hmV1 := hm.1.frm (X := fun _ => False) (frm_below hwV) (noI_false w)
  have zV := hwV.size
  have zX := hX.lt
  have hkn := hl.kn
  have u0 : ∀ U, Below V.heap.size V U → U.cell? ⟨w.heap.size, 0, none⟩ = some (.int .i64 (kd : Int)) := hXV.cellV (i := 0) rfl
  have u2 : ∀ U, Below V.heap.size V U → U.cell? ⟨w.heap.size, 2, none⟩ = some (.int .i64 (lk : Int)) := hXV.cellV (i := 2) rfl
  have u3 : ∀ U, Below V.heap.size V U → U.cell? ⟨w.heap.size, 3, none⟩ = some (.int .i64 lb.n) := hXV.cellV (i := 3) rfl
  have u4 : ∀ U, Below V.heap.size V U → U.cell? ⟨w.heap.size, 4, none⟩ = some (.int .i64 lb.nd) := hXV.cellV (i := 4) rfl
  have u5 : ∀ U, Below V.heap.size V U → U.cell? ⟨w.heap.size, 5, none⟩ = some (.int .i64 lb.lf) := hXV.cellV (i := 5) rfl
  have u6 : ∀ U, Below V.heap.size V U → U.cell? ⟨w.heap.size, 6, none⟩ = some (.int .i64 lg.n) := hXV.cellV (i := 6) rfl
  have u7 : ∀ U, Below V.heap.size V U → U.cell? ⟨w.heap.size, 7, none⟩ = some (.int .i64 lg.nd) := hXV.cellV (i := 7) rfl
  have u8 : ∀ U, Below V.heap.size V U → U.cell? ⟨w.heap.size, 8, none⟩ = some (.int .i64 lg.lf) := hXV.cellV (i := 8) rfl
  have u9 : ∀ U, Below V.heap.size V U → U.cell? ⟨w.heap.size, 9, none⟩ = some (.int .i64 lp.n) := hXV.cellV (i := 9) rfl
  have u10 : ∀ U, Below V.heap.size V U → U.cell? ⟨w.heap.size, 10, none⟩ = some (.int .i64 lp.nd) := hXV.cellV (i := 10) rfl
  have u11 : ∀ U, Below V.heap.size V U → U.cell? ⟨w.heap.size, 11, none⟩ = some (.int .i64 lp.lf) := hXV.cellV (i := 11) rfl
  have u12 : ∀ U, Below V.heap.size V U → U.cell? ⟨w.heap.size, 12, none⟩ = some (.int .i64 la.n) := hXV.cellV (i := 12) rfl
  have u13 : ∀ U, Below V.heap.size V U → U.cell? ⟨w.heap.size, 13, none⟩ = some (.int .i64 la.nd) := hXV.cellV (i := 13) rfl
  have u14 : ∀ U, Below V.heap.size V U → U.cell? ⟨w.heap.size, 14, none⟩ = some (.int .i64 la.lf) := hXV.cellV (i := 14) rfl
  have u15 : ∀ U, Below V.heap.size V U → U.cell? ⟨w.heap.size, 15, none⟩ = some (.slice q1 n1 c1) := hXV.cellV (i := 15) rfl
  have hbv := Below.refl V.heap.size V
  obtain ⟨⟨rp, ra, rvv, rl⟩, hor⟩ : ∃ r, P.os[lk]? = some r := ⟨P.os[lk]'(by rw [hV.size.1]; exact hkn), List.getElem?_eq_getElem _⟩
  have hxr : S.rg[lk]? = some ⟨rp, ra, rl⟩ := by rw [← hV.rgs, List.getElem?_map, hor]; rfl
  have hIr := hV.rgi _ (List.mem_of_getElem? hor)
  dsimp only at hIr
  obtain ⟨qr, cr, er⟩ := hIr.form
  subst er
  obtain ⟨nr, hnr⟩ : ∃ n, rl.length = n := ⟨_, rfl⟩
  rw [hnr] at hIr hor
  have hgl := hV.reg.lt
  have hki : (lk : Int) < (S.n : Int) := by have h9 : lk < S.n := hkn; omega
  have hkn' : lk < S.n := hkn
  have hn5 := hI.n5
  have rc0 : ∀ U, Below V.heap.size V U → U.cell? ⟨P.gr, lk * 7, none⟩ = some (.int .i64 rp.n) := fun U hb => (hV.reg.keep hb).at (by rw [List.getElem?_toArray]; exact flR_at (i := 0) hor (by omega))
  have rc1 : ∀ U, Below V.heap.size V U → U.cell? ⟨P.gr, lk * 7 + 1, none⟩ = some (.int .i64 rp.nd) := fun U hb => (hV.reg.keep hb).at (by rw [List.getElem?_toArray]; exact flR_at (i := 1) hor (by omega))
  have rc2 : ∀ U, Below V.heap.size V U → U.cell? ⟨P.gr, lk * 7 + 2, none⟩ = some (.int .i64 rp.lf) := fun U hb => (hV.reg.keep hb).at (by rw [List.getElem?_toArray]; exact flR_at (i := 2) hor (by omega))
  have rc3 : ∀ U, Below V.heap.size V U → U.cell? ⟨P.gr, lk * 7 + 3, none⟩ = some (.int .i64 ra.n) := fun U hb => (hV.reg.keep hb).at (by rw [List.getElem?_toArray]; exact flR_at (i := 3) hor (by omega))
  have rc4 : ∀ U, Below V.heap.size V U → U.cell? ⟨P.gr, lk * 7 + 4, none⟩ = some (.int .i64 ra.nd) := fun U hb => (hV.reg.keep hb).at (by rw [List.getElem?_toArray]; exact flR_at (i := 4) hor (by omega))
  have rc5 : ∀ U, Below V.heap.size V U → U.cell? ⟨P.gr, lk * 7 + 5, none⟩ = some (.int .i64 ra.lf) := fun U hb => (hV.reg.keep hb).at (by rw [List.getElem?_toArray]; exact flR_at (i := 5) hor (by omega))
  have rc6 : ∀ U, Below V.heap.size V U → U.cell? ⟨P.gr, lk * 7 + 6, none⟩ = some (.slice qr nr cr) := fun U hb => (hV.reg.keep hb).at (by rw [List.getElem?_toArray]; exact flR_at (i := 6) hor (by omega))
  obtain ⟨wc0, -, -, wc12, hfzV, hwlV⟩ := hV.cells
  have D : ∀ U, Below V.heap.size V U → Blk U w.heap.size (lV (kd : Int) (lr : Int) (lk : Int) lb lg lp la (.slice q1 n1 c1) (.slice q2 n2 c2)) 76 := fun U hb => hXV.keep hb
  obtain ⟨X, hXd⟩ : ∃ X, X = prR ⟨rp, ra, rl⟩ lb := ⟨_, rfl⟩
  obtain ⟨N, hNd⟩ : ∃ N, N = prN ⟨rp, ra, rl⟩ lb := ⟨_, rfl⟩
  have HXd : Hid (X = prR ⟨rp, ra, rl⟩ lb) := hXd
  have HNd : Hid (N = prN ⟨rp, ra, rl⟩ lb) := hNd
  clear hXd hNd
  have HP : Hid (∀ U, Below V.heap.size V U → Calls Try.prog 37 #[rV rp ra (.slice qr nr cr), bV lb] U fun e w' => RgE w' U.heap.size X (errV N) e ∧ Below U.heap.size U w') := fun U hb => by
    rw [HXd.out, HNd.out]
    exact prepare_any ⟨rp, ra, rl⟩ lb (.slice qr nr cr) U ((hIr.is hV.old).keep hb)
  have e := HKD.out
  have z0 : ((kd : Int) == 0) = false := by rw [e]; rfl
  have z1 : ((kd : Int) == 1) = true := by rw [e]; rfl
  have e9 : Hid (kd = 1) := e
  clear e
  go_upto_region 7 with fail
  go_cut [6, 7] from 32 to 44 (fun xp ev wc => ∃ (gx : Nat) (q : Option Addr) (n c : Nat), xp = .pointer (some ⟨gx, 0, none⟩) ∧ V.heap.size ≤ gx ∧ Blk wc gx (rC X.p X.a (.slice q n c)) 61 ∧ Io wc V.heap.size (.slice q n c) X.l ∧ X.l.length = n ∧ ev = errV N ∧ Below V.heap.size V wc)
  case first =>
    refine wp_region_held_drew (S := fun w' => Below V.heap.size V w') (by kernel_rfl) (ab_drew (Below.refl _ _)) (fun hHeld => ?_)
    refine takeH (i := 0) (some 33) rfl rfl (by kernel_rfl) (by kernel_rfl) (by kernel_rfl) (fun _ _ _ h => h) (by rfl) (fun w hSw => by (try dsimp only at hSw); go_simp; try rfl) hHeld ?_
    go_frame
    refine takeH (i := 1) (some 34) rfl rfl (by kernel_rfl) (by kernel_rfl) (by kernel_rfl) (fun _ _ _ h => h) (by rfl) (fun w hSw => by (try dsimp only at hSw); go_simp; try rfl) hHeld ?_
    go_frame
    refine takeH (i := 2) (some 35) rfl rfl (by kernel_rfl) (by kernel_rfl) (by kernel_rfl) (fun _ _ _ h => h) (by rfl) (fun w hSw => by (try dsimp only at hSw); go_simp; try rfl) hHeld ?_
    go_frame
    refine takeH (i := 3) (some 36) rfl rfl (by kernel_rfl) (by kernel_rfl) (by kernel_rfl) (fun _ _ _ h => h) (by rfl) (fun w hSw => by (try dsimp only at hSw); have g := wc0 _ hSw; go_simp; try rfl) hHeld ?_
    go_frame
    refine takeH (i := 4) (some 37) rfl rfl (by kernel_rfl) (by kernel_rfl) (by kernel_rfl) (fun _ _ _ h => h) (by rfl) (fun w hSw => by (try dsimp only at hSw); go_simp; try rfl) hHeld ?_
    go_frame
    refine takeH (i := 5) (some 38) rfl rfl (by kernel_rfl) (by kernel_rfl) (by kernel_rfl) (fun _ _ _ h => h) (by rfl) (fun w hSw => by (try dsimp only at hSw); go_simp; try rfl) hHeld ?_
    go_frame
    refine takeH (i := 6) (some 39) rfl rfl (by kernel_rfl) (by kernel_rfl) (by kernel_rfl) (fun _ _ _ h => h) (by rfl) (fun w hSw => by (try dsimp only at hSw); have g0 := rc0 _ hSw; have g1 := rc1 _ hSw; have g2 := rc2 _ hSw; have g3 := rc3 _ hSw; have g4 := rc4 _ hSw; have g5 := rc5 _ hSw; have g6 := rc6 _ hSw; go_simp; try rfl) hHeld ?_
    go_frame
    refine takeH (i := 7) (some 40) rfl rfl (by kernel_rfl) (by kernel_rfl) (by kernel_rfl) (fun _ _ _ h => h) (by rfl) (fun w hSw => by (try dsimp only at hSw); go_simp; try rfl) hHeld ?_
    go_frame
    refine takeH (i := 8) (some 41) rfl rfl (by kernel_rfl) (by kernel_rfl) (by kernel_rfl) (fun _ _ _ h => h) (by rfl) (fun w hSw => by (try dsimp only at hSw); have hh := D _ hSw; have y3 := hh.at (i := 3) rfl; have y4 := hh.at (i := 4) rfl; have y5 := hh.at (i := 5) rfl; go_simp; try rfl) hHeld ?_
    go_frame
    have hdr : Below V.heap.size V V.drew := hHeld
    generalize V.drew = V0 at *
    refine wpAnyH_ready (rs := [9, 13]) (by kernel_rfl) (by simp) (AllReadyH.cons rfl (fun K hK => ?_) (AllReadyH.cons rfl (fun K hK => ?_) AllReadyH.nil))
    · go_simp
      refine (HP.out V0 hdr).mono ?_
      rintro e W2 ⟨⟨q6, n6, c6, rfl, hO6, hn6⟩, b6⟩
      show K _ _
      have hb6 := ab_trans hdr b6
      refine hK.out _ _ hb6 (fun hHeld => ?_)
      clear hK K
      refine takeH (i := 10) (some 32) rfl rfl (by kernel_rfl) (by kernel_rfl) (by kernel_rfl) (fun _ _ _ h => h) (by rfl) (fun w hSw => by (try dsimp only at hSw); go_simp; try rfl) hHeld ?_
      go_frame
      refine takeH (i := 11) (some 43) rfl rfl (by kernel_rfl) (by kernel_rfl) (by kernel_rfl) (fun _ _ _ h => h) (by rfl) (fun w hSw => by (try dsimp only at hSw); go_simp; try rfl) hHeld ?_
      go_frame
      refine takeH (i := 12) (some 44) rfl rfl (by kernel_rfl) (by kernel_rfl) (by kernel_rfl) (fun _ _ _ h => h) (by rfl) (fun w hSw => by (try dsimp only at hSw); go_simp; try rfl) hHeld ?_
      go_frame
      refine wpAnyH_ready (rs := [13]) (by kernel_rfl) (by simp) (AllReadyH.cons rfl (fun K hK => ?_) AllReadyH.nil)
      rw [if_pos (by rfl)]
      refine alW (some 6) rfl rfl (rC zB zB (.slice none 0 0)) (zeroR11 _) ?_
      intro W7 hB7 b7
      have hb7 := ab_trans hb6 b7
      have zz := hb6.size
      refine hK.out _ _ hb7 (fun hHeld => ?_)
      clear hK K
      refine wpAnyH_ready (rs := [14]) (by kernel_rfl) (by simp) (AllReadyH.cons rfl (fun K hK => ?_) AllReadyH.nil)
      rw [if_pos (by rfl)]
      refine stW none rfl rfl hB7 rfl rfl (info_rg X.p X.a (.slice q6 n6 c6)) rfl (rg_one _ _ _ _ _) fun W8 hB8 C8 => ?_
      have hb8 := ab_chg hb7 C8 (by omega)
      have hO8 : Io W8 V.heap.size (.slice q6 n6 c6) X.l := own_chgT ((hO6.keep b7).less hdr.size) C8 (blk_own ((hO6.keep b7).less hdr.size) hB7 (by decide))
      refine hK.out _ _ hb8 (fun hHeld => ?_)
      clear hK K
      refine takeH (i := 15) (some 7) rfl rfl (by kernel_rfl) (by kernel_rfl) (by kernel_rfl) (fun _ _ _ h => h) (by rfl) (fun w hSw => by (try dsimp only at hSw); go_simp; try rfl) hHeld ?_
      go_frame
      refine wpAnyH_done (by kernel_rfl) ?_ _
      go_wp2_with fail
      go_meet
      case rel => exact ⟨_, q6, n6, c6, rfl, zz, hB8, hO8, hn6, rfl, hb8⟩
    · rw [if_pos (by rfl)]
      refine alW (some 6) rfl rfl (rC zB zB (.slice none 0 0)) (zeroR11 _) ?_
      intro W7 hB7 b7
      have hb7 := ab_trans hdr b7
      have zz := hdr.size
      refine hK.out _ _ hb7 (fun hHeld => ?_)
      clear hK K
      refine wpAnyH_ready (rs := [9]) (by kernel_rfl) (by simp) (AllReadyH.cons rfl (fun K hK => ?_) AllReadyH.nil)
      go_simp
      refine (HP.out W7 hb7).mono ?_
      rintro e W2 ⟨⟨q6, n6, c6, rfl, hO6, hn6⟩, b6⟩
      show K _ _
      have hb6 := ab_trans hb7 b6
      have hB6 := hB7.keep b6
      refine hK.out _ _ hb6 (fun hHeld => ?_)
      clear hK K
      refine takeH (i := 10) (some 32) rfl rfl (by kernel_rfl) (by kernel_rfl) (by kernel_rfl) (fun _ _ _ h => h) (by rfl) (fun w hSw => by (try dsimp only at hSw); go_simp; try rfl) hHeld ?_
      go_frame
      refine takeH (i := 11) (some 43) rfl rfl (by kernel_rfl) (by kernel_rfl) (by kernel_rfl) (fun _ _ _ h => h) (by rfl) (fun w hSw => by (try dsimp only at hSw); go_simp; try rfl) hHeld ?_
      go_frame
      refine takeH (i := 12) (some 44) rfl rfl (by kernel_rfl) (by kernel_rfl) (by kernel_rfl) (fun _ _ _ h => h) (by rfl) (fun w hSw => by (try dsimp only at hSw); go_simp; try rfl) hHeld ?_
      go_frame
      refine wpAnyH_ready (rs := [14]) (by kernel_rfl) (by simp) (AllReadyH.cons rfl (fun K hK => ?_) AllReadyH.nil)
      rw [if_pos (by rfl)]
      refine stW none rfl rfl hB6 rfl rfl (info_rg X.p X.a (.slice q6 n6 c6)) rfl (rg_one _ _ _ _ _) fun W8 hB8 C8 => ?_
      have hb8 := ab_chg hb6 C8 (by omega)
      have hO8 : Io W8 V.heap.size (.slice q6 n6 c6) X.l := own_chgT (hO6.less hb7.size) C8 (blk_own (hO6.less hb7.size) hB6 (by decide))
      refine hK.out _ _ hb8 (fun hHeld => ?_)
      clear hK K
      refine takeH (i := 15) (some 7) rfl rfl (by kernel_rfl) (by kernel_rfl) (by kernel_rfl) (fun _ _ _ h => h) (by rfl) (fun w hSw => by (try dsimp only at hSw); go_simp; try rfl) hHeld ?_
      go_frame
      refine wpAnyH_done (by kernel_rfl) ?_ _
      go_wp2_with fail
      go_meet
      case rel => exact ⟨_, q6, n6, c6, rfl, zz, hB8, hO8, hn6, rfl, hb8⟩
  case rest =>
    obtain ⟨gx, q, n, c, rfl, hgx, hBx, hOx, hnx, rfl, hbc⟩ := hcut
    obtain ⟨V2, hV2⟩ : ∃ W, W = wc := ⟨_, rfl⟩
    subst hV2
    have hX2 := hXV.keep hbc
    have v1 : ∀ U, Below V2.heap.size V2 U → U.cell? ⟨w.heap.size, 1, none⟩ = some (.int .i64 (lr : Int)) := hX2.cellV (i := 1) rfl
    have v3 : ∀ U, Below V2.heap.size V2 U → U.cell? ⟨w.heap.size, 3, none⟩ = some (.int .i64 lb.n) := hX2.cellV (i := 3) rfl
    have v4 : ∀ U, Below V2.heap.size V2 U → U.cell? ⟨w.heap.size, 4, none⟩ = some (.int .i64 lb.nd) := hX2.cellV (i := 4) rfl
    have v5 : ∀ U, Below V2.heap.size V2 U → U.cell? ⟨w.heap.size, 5, none⟩ = some (.int .i64 lb.lf) := hX2.cellV (i := 5) rfl
    obtain ⟨x0, x1, x2, x3, x4, x5, x6⟩ := cells7 hBx
    have hbv := Below.refl V2.heap.size V2
    clear u0 u2 u3 u4 u5 u6 u7 u8 u9 u10 u11 u12 u13 u14 u15
    go_upto_region 9 with fail
    generalize hE3 : V2.alloc _ = V3
    have hBb : Blk V3 V2.heap.size (lV 2 (lr : Int) (lk : Int) lb zB X.p X.a (.slice q n c) (.slice none 0 0)) 76 := by rw [← hE3]; exact Blk.new _ _ _
    have b33 : Below V2.heap.size V2 V3 := by rw [← hE3]; exact (Below.refl _ _).alloc (Nat.le_refl _) _
    clear hE3 v1 v3 v4 v5 x0 x1 x2 x3 x4 x5 x6 hbv
    have hgxl := hBx.lt
    have hBx3 := hBx.keep b33
    have hOx3 := hOx.keep b33
    have hb3 := ab_trans hbc b33
    have hX3 := hX2.keep b33
    have v0 : ∀ U, Below V3.heap.size V3 U → U.cell? ⟨w.heap.size, 0, none⟩ = some (.int .i64 (kd : Int)) := hX3.cellV (i := 0) rfl
    have hbv := Below.refl V3.heap.size V3
    go_upto_region 10 with fail
    clear v0 hbv
    obtain ⟨Y, hYd⟩ : ∃ Y, Y = acR ⟨rp, ra, rl⟩ lb lm := ⟨_, rfl⟩
    obtain ⟨M, hMd⟩ : ∃ M, M = acN ⟨rp, ra, rl⟩ lb lm := ⟨_, rfl⟩
    have HYd : Hid (Y = acR ⟨rp, ra, rl⟩ lb lm) := hYd
    have HMd : Hid (M = acN ⟨rp, ra, rl⟩ lb lm) := hMd
    clear hYd hMd
    have hmV2 := hm.2.frm (X := fun _ => False) (frm_below hwV) (noI_false w)
    have zV23 : V.heap.size ≤ V3.heap.size := hb3.size
    have hgx3 : gx < V3.heap.size := hBx3.lt
    have hgg : ¬ P.gr = gx := by omega
    have hgw : ¬ wb = gx := by omega
    have zwx : ¬ w.heap.size = gx := by have := hXV.lt; omega
    have D3 : ∀ U, Frm (fun k => k = gx) V3 U → Blk U w.heap.size (lV (kd : Int) (lr : Int) (lk : Int) lb lg lp la (.slice q1 n1 c1) (.slice q2 n2 c2)) 76 ∧ U.cell? ⟨wb, 0, none⟩ = some (.slice (some ⟨P.gr, 0, none⟩) S.n S.n) ∧ Blk U P.gr (flR P.os).toArray 61 ∧ Blk U V2.heap.size (lV 2 (lr : Int) (lk : Int) lb zB X.p X.a (.slice q n c) (.slice none 0 0)) 76 := fun U hF =>
      ⟨hX3.frm hF zwx, by obtain ⟨a1, a2, a3, -, hBw⟩ := (hV.keep hb3).blk; exact (hBw.frm hF hgw).at (i := 0) rfl, (hV.keep hb3).reg.frm hF hgg, hBb.frm hF (fun e => by have := (e ▸ hBb.kindR).uniq hBx3.kindR; cases this)⟩
    have rf0 : ∀ U, Frm (fun k => k = gx) V3 U → U.cell? ⟨P.gr, lk * 7, none⟩ = some (.int .i64 rp.n) := fun U hF => (D3 U hF).2.2.1.at (by rw [List.getElem?_toArray]; exact flR_at (i := 0) hor (by omega))
    have rf1 : ∀ U, Frm (fun k => k = gx) V3 U → U.cell? ⟨P.gr, lk * 7 + 1, none⟩ = some (.int .i64 rp.nd) := fun U hF => (D3 U hF).2.2.1.at (by rw [List.getElem?_toArray]; exact flR_at (i := 1) hor (by omega))
    have rf2 : ∀ U, Frm (fun k => k = gx) V3 U → U.cell? ⟨P.gr, lk * 7 + 2, none⟩ = some (.int .i64 rp.lf) := fun U hF => (D3 U hF).2.2.1.at (by rw [List.getElem?_toArray]; exact flR_at (i := 2) hor (by omega))
    have rf3 : ∀ U, Frm (fun k => k = gx) V3 U → U.cell? ⟨P.gr, lk * 7 + 3, none⟩ = some (.int .i64 ra.n) := fun U hF => (D3 U hF).2.2.1.at (by rw [List.getElem?_toArray]; exact flR_at (i := 3) hor (by omega))
    have rf4 : ∀ U, Frm (fun k => k = gx) V3 U → U.cell? ⟨P.gr, lk * 7 + 4, none⟩ = some (.int .i64 ra.nd) := fun U hF => (D3 U hF).2.2.1.at (by rw [List.getElem?_toArray]; exact flR_at (i := 4) hor (by omega))
    have rf5 : ∀ U, Frm (fun k => k = gx) V3 U → U.cell? ⟨P.gr, lk * 7 + 5, none⟩ = some (.int .i64 ra.lf) := fun U hF => (D3 U hF).2.2.1.at (by rw [List.getElem?_toArray]; exact flR_at (i := 5) hor (by omega))
    have rf6 : ∀ U, Frm (fun k => k = gx) V3 U → U.cell? ⟨P.gr, lk * 7 + 6, none⟩ = some (.slice qr nr cr) := fun U hF => (D3 U hF).2.2.1.at (by rw [List.getElem?_toArray]; exact flR_at (i := 6) hor (by omega))
    refine wp_region_held_drew (S := fun w' => Frm (fun k => k = gx) V3 w') (by kernel_rfl) (frm_below (ab_drew (Below.refl _ _))) (fun hHeld => ?_)
    refine takeH (i := 0) (some 56) rfl rfl (by kernel_rfl) (by kernel_rfl) (by kernel_rfl) (fun _ _ _ h => h) (by rfl) (fun w hSw => by (try dsimp only at hSw); go_simp; try rfl) hHeld ?_
    go_frame
    refine takeH (i := 1) (some 57) rfl rfl (by kernel_rfl) (by kernel_rfl) (by kernel_rfl) (fun _ _ _ h => h) (by rfl) (fun w hSw => by (try dsimp only at hSw); go_simp; try rfl) hHeld ?_
    go_frame
    refine takeH (i := 2) (some 58) rfl rfl (by kernel_rfl) (by kernel_rfl) (by kernel_rfl) (fun _ _ _ h => h) (by rfl) (fun w hSw => by (try dsimp only at hSw); go_simp; try rfl) hHeld ?_
    go_frame
    refine takeH (i := 3) (some 59) rfl rfl (by kernel_rfl) (by kernel_rfl) (by kernel_rfl) (fun _ _ _ h => h) (by rfl) (fun w hSw => by (try dsimp only at hSw); have g := (D3 _ hSw).2.1; go_simp; try rfl) hHeld ?_
    go_frame
    refine takeH (i := 4) (some 60) rfl rfl (by kernel_rfl) (by kernel_rfl) (by kernel_rfl) (fun _ _ _ h => h) (by rfl) (fun w hSw => by (try dsimp only at hSw); go_simp; try rfl) hHeld ?_
    go_frame
    refine takeH (i := 5) (some 61) rfl rfl (by kernel_rfl) (by kernel_rfl) (by kernel_rfl) (fun _ _ _ h => h) (by rfl) (fun w hSw => by (try dsimp only at hSw); go_simp; try rfl) hHeld ?_
    go_frame
    refine takeH (i := 6) (some 62) rfl rfl (by kernel_rfl) (by kernel_rfl) (by kernel_rfl) (fun _ _ _ h => h) (by rfl) (fun w hSw => by (try dsimp only at hSw); have g0 := rf0 _ hSw; have g1 := rf1 _ hSw; have g2 := rf2 _ hSw; have g3 := rf3 _ hSw; have g4 := rf4 _ hSw; have g5 := rf5 _ hSw; have g6 := rf6 _ hSw; go_simp; try rfl) hHeld ?_
    go_frame
    refine takeH (i := 7) (some 63) rfl rfl (by kernel_rfl) (by kernel_rfl) (by kernel_rfl) (fun _ _ _ h => h) (by rfl) (fun w hSw => by (try dsimp only at hSw); go_simp; try rfl) hHeld ?_
    go_frame
    refine takeH (i := 8) (some 64) rfl rfl (by kernel_rfl) (by kernel_rfl) (by kernel_rfl) (fun _ _ _ h => h) (by rfl) (fun w hSw => by (try dsimp only at hSw); have hh := (D3 _ hSw).1; have y3 := hh.at (i := 3) rfl; have y4 := hh.at (i := 4) rfl; have y5 := hh.at (i := 5) rfl; go_simp; try rfl) hHeld ?_
    go_frame
    refine takeH (i := 9) (some 65) rfl rfl (by kernel_rfl) (by kernel_rfl) (by kernel_rfl) (fun _ _ _ h => h) (by rfl) (fun w hSw => by (try dsimp only at hSw); go_simp; try rfl) hHeld ?_
    go_frame
    refine takeH (i := 10) (some 66) rfl rfl (by kernel_rfl) (by kernel_rfl) (by kernel_rfl) (fun _ _ _ h => h) (by rfl) (fun w hSw => by (try dsimp only at hSw); have hh := (D3 _ hSw).1; have y16 := hh.at (i := 16) rfl; go_simp; try rfl) hHeld ?_
    go_frame
    refine wpAnyH_ready (rs := [11]) (by kernel_rfl) (by simp) (AllReadyH.cons rfl (fun K hK => ?_) AllReadyH.nil)
    go_simp
    have hdr : Below V3.heap.size V3 V3.drew := ab_drew (Below.refl _ _)
    generalize V3.drew = V0 at *
    have hA9 := accept_any ⟨rp, ra, rl⟩ lb (.slice qr nr cr) (.slice q2 n2 c2) lm V0 ((hIr.is hV.old).keep (ab_trans hb3 hdr)) ((hmV2.is hV.old).keep (ab_trans hb3 hdr))
    rw [← HYd.out, ← HMd.out] at hA9
    refine hA9.mono ?_
    clear hA9
    rintro e W4 ⟨⟨q5, n5, c5, rfl, hO4, hn4⟩, b4⟩
    show K _ _
    have hb4 := ab_trans hdr b4
    refine hK.out _ _ (frm_below hb4) (fun hHeld => ?_)
    clear hK K
    refine takeH (i := 12) (some 55) rfl rfl (by kernel_rfl) (by kernel_rfl) (by kernel_rfl) (fun _ _ _ h => h) (by rfl) (fun w hSw => by (try dsimp only at hSw); go_simp; try rfl) hHeld ?_
    go_frame
    refine takeH (i := 13) (some 68) rfl rfl (by kernel_rfl) (by kernel_rfl) (by kernel_rfl) (fun _ _ _ h => h) (by rfl) (fun w hSw => by (try dsimp only at hSw); go_simp; try rfl) hHeld ?_
    go_frame
    refine takeH (i := 14) (some 69) rfl rfl (by kernel_rfl) (by kernel_rfl) (by kernel_rfl) (fun _ _ _ h => h) (by rfl) (fun w hSw => by (try dsimp only at hSw); go_simp; try rfl) hHeld ?_
    go_frame
    refine wpAnyH_ready (rs := [15]) (by kernel_rfl) (by simp) (AllReadyH.cons rfl (fun K hK => ?_) AllReadyH.nil)
    rw [if_pos (by rfl)]
    have hBx4 := hBx3.keep hb4
    refine stW none rfl rfl hBx4 rfl rfl (info_rg Y.p Y.a (.slice q5 n5 c5)) rfl (rg_one _ _ _ _ _) fun W5 hB5x C5 => ?_
    have hF5 : Frm (fun k => k = gx) V3 W5 := (frm_below hb4).trans (frm_chg C5 rfl)
    have hO4' : Io W4 V.heap.size (.slice q5 n5 c5) Y.l := hO4.less (by have := hdr.size; omega)
    have hO5y : Io W5 V.heap.size (.slice q5 n5 c5) Y.l := own_chgT hO4' C5 (blk_own hO4' hBx4 (by decide))
    have hOx4 := hOx3.keep hb4
    have hO5x : Io W5 V.heap.size (.slice q n c) X.l := own_chgT hOx4 C5 (blk_own hOx4 hBx4 (by decide))
    refine hK.out _ _ hF5 (fun hHeld => ?_)
    clear hK K
    refine takeH (i := 16) (some 7) rfl rfl (by kernel_rfl) (by kernel_rfl) (by kernel_rfl) (fun _ _ _ h => h) (by rfl) (fun w hSw => by (try dsimp only at hSw); go_simp; try rfl) hHeld ?_
    go_frame
    refine wpAnyH_done (by kernel_rfl) ?_ _
    obtain ⟨-, -, -, hBb5⟩ := D3 _ hF5
    have hb5 : Below V.heap.size V W5 := hb3.trans (hF5.below hb3.size (fun k hk => by subst hk; exact hgx))
    have k0' : W5.cell? ⟨V2.heap.size, 0, none⟩ = some (.int .i64 2) := hBb5.at (i := 0) rfl
    have kf0 := hBb5.frozen 0
    clear D3 hHeld rf0 rf1 rf2 rf3 rf4 rf5 rf6
    go_upto_region 12 with fail
    have hB5b : Blk (W5.setCell ⟨V2.heap.size, 0, none⟩ (.int .i64 3)) V2.heap.size (lV 3 (lr : Int) (lk : Int) lb zB X.p X.a (.slice q n c) (.slice none 0 0)) 76 := hBb5.set 0 _
    have C6' := chg_set W5 V2.heap.size 0 (.int .i64 3)
    have hne5 : gx ≠ V2.heap.size := fun e => by have := (e ▸ hB5x.kindR).uniq hBb5.kindR; cases this
    have hB5x := hB5x.chg C6' hne5
    have hNo5 : NoI (fun k => k = V2.heap.size) W5 := fun k hk hi => by subst hk; have := hi.uniq hBb5.kindR; cases this
    have hFb : Frm (fun k => k = V2.heap.size) W5 (W5.setCell ⟨V2.heap.size, 0, none⟩ (.int .i64 3)) := frm_chg C6' rfl
    have hO5y := hO5y.frm hFb hNo5
    have hO5x := hO5x.frm hFb hNo5
    have hb5 : Below V.heap.size V (W5.setCell ⟨V2.heap.size, 0, none⟩ (.int .i64 3)) := hb5.trans (C6'.below hbc.size)
    generalize W5.setCell ⟨V2.heap.size, 0, none⟩ (.int .i64 3) = V5 at hB5b hB5x hO5y hO5x hb5 ⊢
    clear k0' kf0 C6' hFb hNo5
    have hN5 := hV.keep hb5
    have hX5 := hXV.keep hb5
    have hzV5 := hb5.size
    obtain ⟨qw0, -, -, qw12, hfz5, hwl5⟩ := hN5.cells
    have hlb0 : W0.heap.size ≤ V.heap.size := hV.lB
    obtain ⟨ql, cl, el⟩ := hN5.letters
    have hlvne : ∀ k, P.lv.ownBlock = some k → k < w.heap.size := fun k hk => (h.lts.lt k hk).2
    have hM : M = 0 := by rw [HMd.out]; exact HQ.out _ hxr
    have hM0 : Hid (M = 0) := hM
    rw [errV_ok hM]
    have E1 := neq00
    have y0 : ∀ U, Below V5.heap.size V5 U → Blk U gx (rC Y.p Y.a (.slice q5 n5 c5)) 61 := fun U hb => hB5x.keep hb
    clear hM
    go_upto_region 14 with fail
    have hgrx : gx ≠ P.gr := by have := hN5.reg.lt; have := hgl; omega
    have D5 : ∀ U, Frm (fun k => k = P.gr) V5 U → Blk U gx (rC Y.p Y.a (.slice q5 n5 c5)) 61 ∧ U.cell? ⟨wb, 0, none⟩ = some (.slice (some ⟨P.gr, 0, none⟩) S.n S.n) ∧ Blk U V2.heap.size (lV 3 (lr : Int) (lk : Int) lb zB X.p X.a (.slice q n c) (.slice none 0 0)) 76 := fun U hF =>
      ⟨hB5x.frm hF hgrx, by obtain ⟨a1, a2, a3, -, hBw⟩ := hN5.blk; exact (hBw.frm hF (fun e => by have := (e ▸ hN5.kinds.1).uniq hN5.kinds.2.1; cases this)).at (i := 0) rfl, hB5b.frm hF (fun e => by have := (e ▸ hB5b.kindR).uniq hN5.kinds.2.1; cases this)⟩
    refine wp_region_held_drew (S := fun w' => Frm (fun k => k = P.gr) V5 w') (by kernel_rfl) (frm_below (ab_drew (Below.refl _ _))) (fun hHeld => ?_)
    refine takeH (i := 0) (some 96) rfl rfl (by kernel_rfl) (by kernel_rfl) (by kernel_rfl) (fun _ _ _ h => h) (by rfl) (fun w hSw => by (try dsimp only at hSw); go_simp; try rfl) hHeld ?_
    go_frame
    refine takeH (i := 1) (some 97) rfl rfl (by kernel_rfl) (by kernel_rfl) (by kernel_rfl) (fun _ _ _ h => h) (by rfl) (fun w hSw => by (try dsimp only at hSw); go_simp; try rfl) hHeld ?_
    go_frame
    refine takeH (i := 2) (some 98) rfl rfl (by kernel_rfl) (by kernel_rfl) (by kernel_rfl) (fun _ _ _ h => h) (by rfl) (fun w hSw => by (try dsimp only at hSw); go_simp; try rfl) hHeld ?_
    go_frame
    refine takeH (i := 3) (some 99) rfl rfl (by kernel_rfl) (by kernel_rfl) (by kernel_rfl) (fun _ _ _ h => h) (by rfl) (fun w hSw => by (try dsimp only at hSw); have hh := (D5 _ hSw).2.1; go_simp; try rfl) hHeld ?_
    go_frame
    refine takeH (i := 4) (some 100) rfl rfl (by kernel_rfl) (by kernel_rfl) (by kernel_rfl) (fun _ _ _ h => h) (by rfl) (fun w hSw => by (try dsimp only at hSw); go_simp; try rfl) hHeld ?_
    go_frame
    refine takeH (i := 5) (some 101) rfl rfl (by kernel_rfl) (by kernel_rfl) (by kernel_rfl) (fun _ _ _ h => h) (by rfl) (fun w hSw => by (try dsimp only at hSw); have hh := (D5 _ hSw).1; have y0 := hh.at (i := 0) rfl; have y1 := hh.at (i := 1) rfl; have y2 := hh.at (i := 2) rfl; have y3 := hh.at (i := 3) rfl; have y4 := hh.at (i := 4) rfl; have y5 := hh.at (i := 5) rfl; have y6 := hh.at (i := 6) rfl; go_simp; try rfl) hHeld ?_
    go_frame
    refine takeH (i := 6) (some 102) rfl rfl (by kernel_rfl) (by kernel_rfl) (by kernel_rfl) (fun _ _ _ h => h) (by rfl) (fun w hSw => by (try dsimp only at hSw); go_simp; try rfl) hHeld ?_
    go_frame
    refine wpAnyH_ready (rs := [7]) (by kernel_rfl) (by simp) (AllReadyH.cons rfl (fun K hK => ?_) AllReadyH.nil)
    rw [if_pos (by rfl)]
    obtain ⟨s1, s2, s3⟩ := rg_stored hN5.reg.drew (m := lk) (by rw [hN5.size.1]; exact hkn') ⟨Y.p, Y.a, .slice q5 n5 c5, Y.l⟩
    refine stM none rfl 61 _ _ rfl P.gr (lk * 7) (rC Y.p Y.a (.slice q5 n5 c5)) rfl rfl s3 (info_rg _ _ _) (rg_one _ _ _ _ _) ?_
    have C6 : Chg P.gr V5 _ := (show Chg P.gr V5 V5.drew from ⟨rfl, rfl, rfl, rfl, fun _ _ => rfl⟩).trans s2
    have hN6 := hN5.turnG (k := lk) (r := ⟨Y.p, Y.a, .slice q5 n5 c5, Y.l⟩) hkn' C6 s1 (.inl (hO5y.less hlb0))
    have hF6 : Frm (fun k => k = P.gr) V5 _ := frm_chg C6 rfl
    refine hK.out _ _ hF6 (fun hHeld => ?_)
    clear hK K
    generalize V5.drew.setCells P.gr (lk * 7) _ = W6 at *
    simp only [Act.put]
    refine wpAnyH_done (by kernel_rfl) ?_ _
    obtain ⟨-, -, hBb6⟩ := D5 _ hF6
    have hNo6 : NoI (fun k => k = P.gr) V5 := fun k hk hi => by subst hk; have := hi.uniq hN5.kinds.2.1; cases this
    have hOx6 := hO5x.frm hF6 hNo6
    have z56 := hF6.size
    have hb6' : Below W0.heap.size w W6 := ((hwV.mono h.lB).trans (hb5.mono hlb0)).trans (C6.below hN5.ger)
    clear D5 s1 s2 s3 hHeld C6 hN5 hB5x hB5b qw0 qw12 hfz5
    obtain ⟨-, -, -, w12, hfz6, hwl6⟩ := hN6.cells
    have D6 : ∀ U, Below W6.heap.size W6 U → Blk U V2.heap.size (lV 3 (lr : Int) (lk : Int) lb zB X.p X.a (.slice q n c) (.slice none 0 0)) 76 ∧ U.cell? ⟨wb, 12, none⟩ = some (.slice ql S.lt.length cl) := fun U hb => ⟨hBb6.keep hb, by rw [w12 U hb]; exact congrArg some el⟩
    go_upto_region 15 with fail
    refine region_L 7 (S := fun w' => Below W6.heap.size W6 w') (by kernel_rfl) ((Below.refl _ _).drew) (fun hHeld => ?_)
    have hdr : Below W6.heap.size W6 W6.drew := hHeld
    generalize W6.drew = V0 at *
    refine takeP (i := 0) (some 103) (by rfl) rfl rfl (by kernel_rfl) (by kernel_rfl) (by kernel_rfl) (fun _ _ _ h => h) (by rfl) (fun w => by go_simp; try rfl) hHeld ?_
    go_frame
    refine takeP (i := 1) (some 104) (by rfl) rfl rfl (by kernel_rfl) (by kernel_rfl) (by kernel_rfl) (fun _ _ _ h => h) (by rfl) (fun w => by go_simp; try rfl) hHeld ?_
    go_frame
    refine takeP (i := 2) (some 105) (by rfl) rfl rfl (by kernel_rfl) (by kernel_rfl) (by kernel_rfl) (fun _ _ _ h => h) (by rfl) (fun w => by go_simp; try rfl) hHeld ?_
    go_frame
    refine takeP (i := 3) (some 106) (by rfl) rfl rfl (by kernel_rfl) (by kernel_rfl) (by kernel_rfl) (fun _ _ _ h => h) (by rfl) (fun w => by go_simp; try rfl) hHeld ?_
    go_frame
    refine takeL (i := 4) [7] (some 107) (by rfl) rfl rfl (by kernel_rfl) (by kernel_rfl) (by kernel_rfl) (by kernel_rfl) (fun _ _ _ h => h) (by rfl) (fun w hSw => by (try dsimp only at hSw); (have hcc := (D6 _ hSw).2; go_simp; try rfl)) hHeld ?_
    go_frame
    refine takeL (i := 5) [6, 7] (some 108) (by rfl) rfl rfl (by kernel_rfl) (by kernel_rfl) (by kernel_rfl) (by kernel_rfl) (fun _ _ _ h => h) (by rfl) (fun w hSw => by (try dsimp only at hSw); (have hh := (D6 _ hSw).1; have y0 := hh.at (i := 0) rfl; have y1 := hh.at (i := 1) rfl; have y2 := hh.at (i := 2) rfl; have y3 := hh.at (i := 3) rfl; have y4 := hh.at (i := 4) rfl; have y5 := hh.at (i := 5) rfl; have y6 := hh.at (i := 6) rfl; have y7 := hh.at (i := 7) rfl; have y8 := hh.at (i := 8) rfl; have y9 := hh.at (i := 9) rfl; have y10 := hh.at (i := 10) rfl; have y11 := hh.at (i := 11) rfl; have y12 := hh.at (i := 12) rfl; have y13 := hh.at (i := 13) rfl; have y14 := hh.at (i := 14) rfl; have y15 := hh.at (i := 15) rfl; have y16 := hh.at (i := 16) rfl; go_simp; try rfl)) hHeld ?_
    go_frame
    refine anyL_ready (rs := [6]) (by kernel_rfl) (by simp) (AllL.cons rfl (fun K hK => ?_) AllL.nil)
    rw [if_pos (by rfl)]
    refine bsLtW (some 109) rfl rfl 3 (lr : Int) (lk : Int) lb zB X.p X.a q none n 0 c 0 (by simp only [List.map_toArray, List.map_cons, List.map_nil]; rfl) ?_
    intro W7 hB7 b7
    have hb7 := ab_trans hdr b7
    refine hK.out _ _ hb7 (fun hHeld => ?_)
    clear hK K
    try go_frame
    have hN7 := hN6.keep hb7
    have hown7 := hN7.lts
    dsimp only at hown7
    rw [el] at hown7
    refine anyL_ready (rs := [7]) (by kernel_rfl) (by simp) (AllL.last rfl (by kernel_rfl) (fun K hK => ?_))
    rw [if_pos (by rfl)]
    refine appLt1 (some 110) rfl rfl ⟨3, lr, lk, lb, zB, X.p, X.a, .slice q n c, X.l, .slice none 0 0, []⟩ rfl hown7 rfl hB7 ⟨_, _, _, rfl⟩ ⟨_, _, _, rfl⟩ (by omega) hN7.lB ?_
    intro v8 W8 own8 gr8 _
    have gr8' : W7.grownBy W8 P.lv.ownBlock := by rw [el]; exact gr8
    obtain ⟨hN8, F8⟩ := hN7.more (v := v8) (l := ⟨3, lr, lk, lb, zB, X.p, X.a, .slice q n c, X.l, .slice none 0 0, []⟩) gr8' own8 ⟨.inl ((hOx6.keep hb7).less hlb0), Im.nil _ _ _⟩
    have hc8 : ∃ q c, v8 = .slice q (S.lt.length + 1) c := by
      rcases own8.2 with ⟨h1, h2⟩ | ⟨g, cap, cur, h1, _⟩
      · omega
      · exact ⟨_, _, h1⟩
    obtain ⟨q8, c8, e8⟩ := hc8
    subst e8
    have hBw8 : ∃ cs, Blk W8 wb cs 43 ∧ cs[12]? = some P.lv := by
      obtain ⟨a1, a2, a3, -, hBw⟩ := hN7.blk
      have hF : Frm (fun k => P.lv.ownBlock = some k) W7 W8 := ⟨gr8'.os, gr8'.tape, gr8'.output, gr8'.size, fun i hi hx => gr8'.block i hi (fun e => hx e.symm)⟩
      exact ⟨_, hBw.frm hF (fun e => by have := (hN7.kinds.2.2.2.2 _ e).uniq hBw.kindR; cases this), rfl⟩
    obtain ⟨cs8, hcs8, hcs12⟩ := hBw8
    have hc12 : W8.cell? ⟨wb, 12, none⟩ = some P.lv := hcs8.at hcs12
    have hf12 := hcs8.frozen 12
    have hb8 : Below W0.heap.size w (W8.setCell ⟨wb, 12, none⟩ (.slice q8 (S.lt.length + 1) c8)) := (hb6'.trans (hb7.mono hN6.lB)).trans (F8.below hN7.lB (fun k hk => by rcases hk with e | e; exact (hN7.lts.lt k e).1; subst e; exact hN7.gew))
    refine hK.out _ _ ?_
    clear hK K
    try go_frame
    refine anyL_ready (rs := [8]) (by kernel_rfl) (by simp) (AllL.free rfl (by kernel_rfl) (fun K hK => ?_))
    go_simp
    refine hK.out _ _ ?_
    clear hK K
    try go_frame
    refine anyL_ready (rs := [9]) (by kernel_rfl) (by simp) (AllL.free rfl (by kernel_rfl) (fun K hK => ?_))
    go_simp
    refine hK.out _ _ ?_
    clear hK K
    try go_frame
    refine anyL_ready (rs := [10]) (by kernel_rfl) (by simp) (AllL.free rfl (by kernel_rfl) (fun K hK => ?_))
    go_simp
    refine hK.out _ _ ?_
    clear hK K
    refine anyL_done (by kernel_rfl) ?_
    go_wp2_with fail
    go_end0
    have hI8 : ∃ acc', Inv acc' { S with rg := S.rg.set lk ⟨Y.p, Y.a, Y.l⟩, lt := S.lt ++ [⟨3, lr, lk, lb, zB, X.p, X.a, X.l, []⟩] } := by
      have hN0 : acN ⟨rp, ra, rl⟩ lb lm = 0 := by rw [← HMd.out]; exact hM0.out
      have hYe : Y = ⟨lb, lb, lm⟩ := by rw [HYd.out, acR_ok hN0]
      rw [hYe]
      exact inv_tell (x := ⟨rp, ra, rl⟩) hI hr hl e9.out hxr hN0 X.p X.a X.l
    obtain ⟨acc', hI8⟩ := hI8
    exact ⟨rfl, _, _, acc', hN8, hI8, rfl, rfl, by show (S.lt ++ [_]).length ≤ _; rw [List.length_append]; show S.lt.length + 1 ≤ _; omega, hb8⟩
end Go.Proofs.Ytodmhohccclhmaa
