/-
  Promise, Accepted, Refused.
-/
import Derived.Test.YtpcejajidhfmpaaRuB
namespace Go.Proofs.Ytpcejajidhfmpaa
open Go.RowKit
set_option linter.unusedVariables false
set_option maxRecDepth 100000

theorem Rn.neb {W : World} {B b mp ma : Nat} {R : Rd} (h : Rn W B b mp ma R) : mp ≠ b ∧ ma ≠ b := by
  obtain ⟨vo, vn, vv, hB, -⟩ := h.mem
  exact ⟨fun e => h.pm.noKind 81 (e ▸ hB.kindR), fun e => h.am.noKind 81 (e ▸ hB.kindR)⟩
theorem Rn.lt {W : World} {B b mp ma : Nat} {R : Rd} (h : Rn W B b mp ma R) : b < W.heap.size := by
  obtain ⟨vo, vn, vv, hB, -⟩ := h.mem
  exact hB.lt
/-- A promise more. -/
theorem Rn.prs {W W' : World} {B b mp ma : Nat} {R : Rd} (h : Rn W B b mp ma R) {k : Int} {a : Bt} {l : List Int} (hm : Mp W' B mp (pmP R k a l)) (hg : W.grownBy W' (some mp)) (hl : l.length ≤ 1000) : Rn W' B b mp ma { R with pr := pmP R k a l } := by
  obtain ⟨vo, vn, vv, hB, i1, i2, i3⟩ := h.mem
  have F : Frm (fun k => k = mp) W W' := frm_grown hg rfl
  have hNo : NoI (fun k => k = mp) W := fun k hk hi => by subst hk; exact h.pm.noKind _ hi
  exact ⟨h.geb, h.gep, h.gea, h.ne, ⟨vo, vn, vv, hB.frm F (fun e => h.neb.1 e.symm), i1.frm F hNo, i2.frm F hNo, i3.frm F hNo⟩, hm, h.am.frm F (fun e => h.ne e.symm), h.ok.put hl⟩
/-- An acceptance more. -/
theorem Rn.acc {W W' : World} {B b mp ma : Nat} {R : Rd} (h : Rn W B b mp ma R) {k : Int} (hm : Ma W' ma (acP R k)) (hg : W.grownBy W' (some ma)) : Rn W' B b mp ma { R with ac := acP R k } := by
  obtain ⟨vo, vn, vv, hB, i1, i2, i3⟩ := h.mem
  have F : Frm (fun k => k = ma) W W' := frm_grown hg rfl
  have hNo : NoI (fun k => k = ma) W := fun k hk hi => by subst hk; exact h.am.noKind _ hi
  exact ⟨h.geb, h.gep, h.gea, h.ne, ⟨vo, vn, vv, hB.frm F (fun e => h.neb.2 e.symm), i1.frm F hNo, i2.frm F hNo, i3.frm F hNo⟩, h.pm.frm F h.ne hNo, hm, h.ok.acc k R.st⟩
theorem hear_cells {W : World} {B b mp ma : Nat} {R : Rd} (h : Rn W B b mp ma R) : (∀ V, Below W.heap.size W V → V.cell? ⟨b, 0, none⟩ = some (.int .i64 (R.n : Int))) ∧ (∀ V, Below W.heap.size W V → V.cell? ⟨b, 1, none⟩ = some (.int .i64 R.b.n)) ∧ (∀ V, Below W.heap.size W V → V.cell? ⟨b, 2, none⟩ = some (.int .i64 R.b.nd)) ∧ (∀ V, Below W.heap.size W V → V.cell? ⟨b, 3, none⟩ = some (.int .i64 R.b.lf)) ∧
    (∀ V, Below W.heap.size W V → V.cell? ⟨b, 7, none⟩ = some (.int .i64 (R.st : Int))) ∧ (∀ V, Below W.heap.size W V → V.cell? ⟨b, 8, none⟩ = some (.map (some mp))) ∧ (∀ V, Below W.heap.size W V → V.cell? ⟨b, 9, none⟩ = some (.map (some ma))) := by
  obtain ⟨vo, vn, vv, hB, -⟩ := h.mem
  exact ⟨hB.cellV (i := 0) rfl, hB.cellV (i := 1) rfl, hB.cellV (i := 2) rfl, hB.cellV (i := 3) rfl, hB.cellV (i := 7) rfl, hB.cellV (i := 8) rfl, hB.cellV (i := 9) rfl⟩
/-- What Promise answers and leaves. -/
def PmE (W W' : World) (B b mp ma : Nat) (R' : Rd) (x : Bool) (e : Ending) : Prop := e = .returned (.bool x) ∧ Rn W' B b mp ma R' ∧ Frm (bks b mp ma) W W'
theorem pme_no {W W' : World} {B b mp ma : Nat} {R R' : Rd} {x : Bool} (h : Rn W B b mp ma R) (hb : Below W.heap.size W W') (hx : x = false) (hR : R' = R) : PmE W W' B b mp ma R' x (.returned (.bool false)) := by
  subst hx
  subst hR
  exact ⟨rfl, h.keep hb, frm_below hb⟩
theorem pm_no {R : Rd} {k : Int} {x a : Bt} {l : List Int} (h : pmK R k x = false) : pmB R k x = false ∧ pmS R k x a l = R := by
  unfold pmB pmS
  rw [h]
  exact ⟨rfl, rfl⟩
theorem pmK_yes {R : Rd} {j : Nat} {x : Bt} (h1 : hearB R (j : Int) x = true) (h2 : R.st = 1) (h3 : R.pr[j]? = some none) : pmK R (j : Int) x = true := by
  unfold pmK
  have hj : j < R.pr.length := (List.getElem?_eq_some_iff.1 h3).1
  rw [h1, h2, (prsd_iff hj).1.2 h3]
  rfl
theorem pm_few {R : Rd} {j : Nat} {x a : Bt} {l : List Int} (h : pmK R (j : Int) x = true) (h2 : ¬ R.n < 2 * (cntO R.pr + 1)) : pmB R (j : Int) x = false ∧ pmS R (j : Int) x a l = { R with pr := pmP R (j : Int) a l } := by
  unfold pmB pmS
  rw [h, if_pos rfl, if_neg h2, decide_eq_false h2]
  exact ⟨rfl, rfl⟩
theorem pm_all {R : Rd} {j : Nat} {x a : Bt} {l : List Int} (h : pmK R (j : Int) x = true) (h2 : R.n < 2 * (cntO R.pr + 1)) : pmB R (j : Int) x = true ∧ pmS R (j : Int) x a l = tellR { R with pr := pmP R (j : Int) a l } := by
  unfold pmB pmS
  rw [h, if_pos rfl, if_pos h2, decide_eq_true h2]
  exact ⟨rfl, rfl⟩
set_option maxHeartbeats 2000000 in
theorem promise_any (B b mp ma : Nat) (R : Rd) (k : Int) (x p a : Bt) (v : Value) (l : List Int) (w : World) (h : Rn w B b mp ma R) (hB : B ≤ w.heap.size) (hv : Is w v l) (hl : l.length ≤ 1000) :
    Calls Try.prog 19 #[rptr b, .int .i64 k, bV x, rV p a v] w fun e w' => PmE w w' B b mp ma (pmS R k x a l) (pmB R k x) e := by
  obtain ⟨q, c, e⟩ := hv.form
  subst e
  obtain ⟨n, hn⟩ : ∃ n, l.length = n := ⟨_, rfl⟩
  rw [hn] at hv ⊢
  go_enter Try.func19, Try.ntmps19
  go_upto_region 1 with fail
  obtain ⟨A, hAe, hX, hY, hw⟩ := blk2 w (bC x) (rC p a (.slice q n c)) 23 61
  rw [hAe]
  clear hAe
  have hA := h.keep hw
  obtain ⟨c0, c1, c2, c3, c7, c8, c9⟩ := hear_cells hA
  obtain ⟨x0, x1, x2⟩ := cells3 hX
  have hbv := Below.refl A.heap.size A
  go_wp2_with fail
  refine (hears_any R b k x A (c0 _ hbv) (c1 _ hbv) (c2 _ hbv) (c3 _ hbv)).mono ?_
  rintro e W1 ⟨rfl, b1⟩
  have hbv := b1
  have hw1 := ab_trans hw b1
  cases h1 : hearB R k x
  · have HN : Hid (pmB R k x = false ∧ pmS R k x a l = R) := pm_no (by unfold pmK; rw [h1]; rfl)
    clear h1
    go_wp2_with fail
    go_ret
    exact pme_no h hw1 HN.out.1 HN.out.2
  · by_cases h2 : R.st = 1
    · have z1 : ((R.st : Int) != 1) = false := by rw [h2]; rfl
      obtain ⟨j, rfl, hj, -⟩ := hear_lt h1
      have hok := h.ok
      have hpl := hok.pl
      have h5 := hok.n5
      have hjp : j < R.pr.length := by omega
      cases hx : R.pr[j]? with
      | none => rw [List.getElem?_eq_none_iff] at hx; omega
      | some y =>
        cases y with
        | some y =>
          obtain ⟨a', l'⟩ := y
          have HN : Hid (pmB R (j : Int) x = false ∧ pmS R (j : Int) x a l = R) := pm_no (by unfold pmK; rw [(prsd_iff hjp).2.2 ⟨a', l', hx⟩]; simp)
          obtain ⟨q', c', hrun, -⟩ := (hA.keep b1).pm.look_yes hx (by omega)
          clear h1 hx h2
          generalize l'.length = n' at hrun
          go_wp2_with fail
          go_ret
          exact pme_no h (ab_trans hw1 ((Below.refl _ _).alloc (Nat.le_refl _) _)) HN.out.1 HN.out.2
        | none =>
          have HK : Hid (pmK R (j : Int) x = true) := pmK_yes h1 h2 hx
          have hrun := (hA.keep b1).pm.look_no hx (by omega)
          go_upto_region 6 with fail
          obtain ⟨V, hE, -, bV⟩ := blk1 W1 (rC zB zB (.slice none 0 0)) 61
          rw [show W1.alloc (.cells _ 61) = V from hE]
          have hAV := ab_trans b1 bV
          have hwV := ab_trans hw1 bV
          have hRV := hA.keep hAV
          have hYV := hY.keep hAV
          have hvV := hv.keep hwV
          have c8V := c8 V hAV
          have hblV := hRV.lt
          have hne : w.heap.size + 1 ≠ mp := fun e => hRV.pm.noKind 61 (e ▸ hYV.kindR)
          have zwV : w.heap.size ≤ V.heap.size := hwV.size
          clear hE hrun c0 c1 c2 c3 c7 c8 c9 x0 x1 x2 hX hY hw hv h1 hbv z1 hA hw1 b1 bV hAV
          have D : ∀ W, Frm (fun k => k = mp) V W → W.cell? ⟨b, 8, none⟩ = some (.map (some mp)) ∧ Blk W (w.heap.size + 1) (rC p a (.slice q n c)) 61 := fun W hF =>
            ⟨by obtain ⟨vo, vn, vv, hBk, -⟩ := hRV.mem; exact (hBk.frm hF (fun e => hRV.neb.1 e.symm)).at (i := 8) rfl, hYV.frm hF hne⟩
          refine wp_region_held_drew (S := fun w' => Frm (fun k => k = mp) V w') (by kernel_rfl) (frm_below (ab_drew (Below.refl _ _))) (fun hHeld => ?_)
          refine takeH (i := 0) (some 33) rfl rfl (by kernel_rfl) (by kernel_rfl) (by kernel_rfl) (fun _ _ _ h => h) (by rfl) (fun w hSw => by (try dsimp only at hSw); go_simp; try rfl) hHeld ?_
          go_frame
          refine takeH (i := 1) (some 34) rfl rfl (by kernel_rfl) (by kernel_rfl) (by kernel_rfl) (fun _ _ _ h => h) (by rfl) (fun w hSw => by (try dsimp only at hSw); go_simp; try rfl) hHeld ?_
          go_frame
          refine takeH (i := 2) (some 35) rfl rfl (by kernel_rfl) (by kernel_rfl) (by kernel_rfl) (fun _ _ _ h => h) (by rfl) (fun w hSw => by (try dsimp only at hSw); go_simp; try rfl) hHeld ?_
          go_frame
          refine takeH (i := 3) (some 36) rfl rfl (by kernel_rfl) (by kernel_rfl) (by kernel_rfl) (fun _ _ _ h => h) (by rfl) (fun w hSw => by (try dsimp only at hSw); have := (D _ hSw).1; go_simp; try rfl) hHeld ?_
          go_frame
          refine takeH (i := 4) (some 37) rfl rfl (by kernel_rfl) (by kernel_rfl) (by kernel_rfl) (fun _ _ _ h => h) (by rfl) (fun w hSw => by (try dsimp only at hSw); go_simp; try rfl) hHeld ?_
          go_frame
          refine takeH (i := 5) (some 38) rfl rfl (by kernel_rfl) (by kernel_rfl) (by kernel_rfl) (fun _ _ _ h => h) (by rfl) (fun w hSw => by (try dsimp only at hSw); go_simp; try rfl) hHeld ?_
          go_frame
          refine takeH (i := 6) (some 39) rfl rfl (by kernel_rfl) (by kernel_rfl) (by kernel_rfl) (fun _ _ _ h => h) (by rfl) (fun w hSw => by (try dsimp only at hSw); have hh := (D _ hSw).2; have y0 := hh.at (i := 3) rfl; have y1 := hh.at (i := 4) rfl; have y2 := hh.at (i := 5) rfl; go_simp; try rfl) hHeld ?_
          go_frame
          refine takeH (i := 7) (some 40) rfl rfl (by kernel_rfl) (by kernel_rfl) (by kernel_rfl) (fun _ _ _ h => h) (by rfl) (fun w hSw => by (try dsimp only at hSw); go_simp; try rfl) hHeld ?_
          go_frame
          refine takeH (i := 8) (some 41) rfl rfl (by kernel_rfl) (by kernel_rfl) (by kernel_rfl) (fun _ _ _ h => h) (by rfl) (fun w hSw => by (try dsimp only at hSw); have hh := (D _ hSw).2; have y0 := hh.at (i := 6) rfl; go_simp; try rfl) hHeld ?_
          go_frame
          refine wpAnyH_ready (rs := [9]) (by kernel_rfl) (by simp) (AllReadyH.cons rfl (fun K hK => ?_) AllReadyH.nil)
          go_simp
          have hvd : Below V.heap.size V V.drew := ab_drew (Below.refl _ _)
          generalize V.drew = V0 at *
          refine (rclone_any _ l _ (hvV.keep hvd) (by omega)).mono ?_
          rintro e W3 ⟨v3, rfl, hO3, b3⟩
          show K _ _
          have hb3 := ab_trans hvd b3
          obtain ⟨q3, c3, e3⟩ := hO3.is.form
          rw [hn] at e3
          subst e3
          have hR3 := hRV.keep hb3
          have zb3 : V.heap.size ≤ V0.heap.size := hvd.size
          obtain ⟨W4, hup, hM4, g4⟩ := hR3.pm.put (a := a) hx (by omega) (by omega) (hO3.less (by omega)) hn
          have hup : (Instr.mapUpdate 78 (.map (some mp)) (.int .i64 (j : Int)) (.agg #[.int .i64 0, .int .i64 0, .int .i64 0, .int .i64 a.n, .int .i64 a.nd, .int .i64 a.lf, .slice q3 n c3])).run Try.prog W3 = .ok () W4 := hup
          refine hK.out _ _ (frm_below hb3) (fun hHeld => ?_)
          clear hK K
          refine takeH (i := 10) (some 43) rfl rfl (by kernel_rfl) (by kernel_rfl) (by kernel_rfl) (fun _ _ _ h => h) (by rfl) (fun w hSw => by (try dsimp only at hSw); go_simp; try rfl) hHeld ?_
          go_frame
          refine wpAnyH_ready (rs := [11]) (by kernel_rfl) (by simp) (AllReadyH.cons rfl (fun K hK => ?_) AllReadyH.nil)
          go_simp
          have hF4 : Frm (fun k => k = mp) V W4 := (frm_below hb3).trans (frm_grown g4 rfl)
          refine hK.out _ _ hF4 (fun hHeld => ?_)
          clear hK K
          refine wpAnyH_done (by kernel_rfl) ?_ _
          have hR4 := hR3.prs (k := (j : Int)) (by unfold pmP; rw [Int.toNat_natCast]; exact hM4) g4 hl
          obtain ⟨c0, -, -, -, -, c8, -⟩ := hear_cells hR4
          have hlen := fun ty => hR4.pm.len ty
          have hcnt : cntO (pmP R (j : Int) a l) = cntO R.pr + 1 := by unfold pmP; rw [Int.toNat_natCast]; exact cntO_set _ hx
          have hcl := cntO_le R.pr
          dsimp only at hlen
          rw [hcnt] at hlen
          generalize hN : cntO R.pr + 1 = N at hlen
          have hFw : Frm (bks b mp ma) w W4 := (frm_below hwV).trans (hF4.mono fun k hk => .inr (.inl hk))
          have hbv := Below.refl W4.heap.size W4
          clear D hRV hYV hvV hup hM4 g4 hR3 hO3 hcnt hHeld
          go_wp2_with fail
          refine (rmaj_any b R.n N _ (c0 _ hbv) (by omega)).mono ?_
          rintro e Z ⟨rfl, hZ⟩
          subst Z
          by_cases h3 : R.n < 2 * N
          · have HN : Hid (pmB R (j : Int) x = true ∧ pmS R (j : Int) x a l = tellR { R with pr := pmP R (j : Int) a l }) := pm_all HK.out (by omega)
            rw [decide_eq_true h3]
            go_wp2_with fail
            refine (tell_any B b mp ma _ _ hR4 (by have := hFw.size; omega)).mono ?_
            rintro e W5 ⟨rfl, hR5, F5⟩
            go_wp2_with fail
            go_ret
            rw [HN.out.1, HN.out.2]
            exact ⟨rfl, hR5, hFw.trans F5⟩
          · have HN : Hid (pmB R (j : Int) x = false ∧ pmS R (j : Int) x a l = { R with pr := pmP R (j : Int) a l }) := pm_few HK.out (by omega)
            rw [decide_eq_false h3]
            go_wp2_with fail
            go_ret
            rw [HN.out.1, HN.out.2]
            exact ⟨rfl, hR4, hFw⟩
    · have z1 : ((R.st : Int) != 1) = true := by simp; omega
      have HN : Hid (pmB R k x = false ∧ pmS R k x a l = R) := pm_no (by unfold pmK; rw [decide_eq_false h2]; simp)
      clear h1 h2
      go_wp2_with fail
      go_ret
      exact pme_no h hw1 HN.out.1 HN.out.2
theorem ac_no {R : Rd} {k : Int} {x : Bt} (h : acK R k x = false) : acB R k x = false ∧ acS R k x = R := by
  unfold acB acS
  rw [h]
  exact ⟨rfl, rfl⟩
theorem ac_few {R : Rd} {k : Int} {x : Bt} (h : acK R k x = true) (h2 : ¬ R.n < 2 * cntB (acP R k)) : acB R k x = false ∧ acS R k x = { R with ac := acP R k } := by
  unfold acB acS
  rw [h, if_pos rfl, if_neg h2, decide_eq_false h2]
  exact ⟨rfl, rfl⟩
theorem ac_all {R : Rd} {k : Int} {x : Bt} (h : acK R k x = true) (h2 : R.n < 2 * cntB (acP R k)) : acB R k x = true ∧ acS R k x = { R with ac := acP R k, st := 3 } := by
  unfold acB acS
  rw [h, if_pos rfl, if_pos h2, decide_eq_true h2]
  exact ⟨rfl, rfl⟩
/-- Another stage. -/
theorem Rn.stg {W : World} {B b mp ma : Nat} {R : Rd} (h : Rn W B b mp ma R) (s : Nat) : Rn (W.setCell ⟨b, 7, none⟩ (.int .i64 (s : Int))) B b mp ma { R with st := s } ∧ Frm (fun k => k = b) W (W.setCell ⟨b, 7, none⟩ (.int .i64 (s : Int))) := by
  obtain ⟨vo, vn, vv, hB, i1, i2, i3⟩ := h.mem
  have F : Frm (fun k => k = b) W (W.setCell ⟨b, 7, none⟩ (.int .i64 (s : Int))) := frm_chg (chg_set W b 7 _) rfl
  have hNo : NoI (fun k => k = b) W := fun k hk hi => by subst hk; have := hi.uniq hB.kindR; cases this
  exact ⟨⟨h.geb, h.gep, h.gea, h.ne, ⟨vo, vn, vv, hB.set 7 _, i1.frm F hNo, i2.frm F hNo, i3.frm F hNo⟩, h.pm.frm F h.neb.1 hNo, h.am.frm F h.neb.2, ⟨h.ok.n1, h.ok.n5, h.ok.pl, h.ok.al, h.ok.gd, h.ok.sz, h.ok.vz⟩⟩, F⟩
set_option maxHeartbeats 2000000 in
theorem accepted_any (B b mp ma : Nat) (R : Rd) (k : Int) (x : Bt) (w : World) (h : Rn w B b mp ma R) :
    Calls Try.prog 20 #[rptr b, .int .i64 k, bV x] w fun e w' => PmE w w' B b mp ma (acS R k x) (acB R k x) e := by
  go_enter Try.func20, Try.ntmps20
  go_upto_region 1 with fail
  obtain ⟨A, hAe, hX, hw⟩ := blk1 w (bC x) 23
  rw [hAe]
  clear hAe
  have hA := h.keep hw
  obtain ⟨c0, c1, c2, c3, c7, c8, c9⟩ := hear_cells hA
  obtain ⟨x0, x1, x2⟩ := cells3 hX
  have hbv := Below.refl A.heap.size A
  go_wp2_with fail
  refine (hears_any R b k x A (c0 _ hbv) (c1 _ hbv) (c2 _ hbv) (c3 _ hbv)).mono ?_
  rintro e W1 ⟨rfl, b1⟩
  have hbv := b1
  have hw1 := ab_trans hw b1
  cases h1 : hearB R k x
  · have HN : Hid (acB R k x = false ∧ acS R k x = R) := ac_no (by unfold acK; rw [h1]; rfl)
    clear h1
    go_wp2_with fail
    go_ret
    exact pme_no h hw1 HN.out.1 HN.out.2
  · by_cases h2 : R.st = 2
    · have z1 : ((R.st : Int) != 2) = false := by rw [h2]; rfl
      have HK : Hid (acK R k x = true) := by show _ = _; unfold acK; rw [h1, h2]; rfl
      obtain ⟨j, rfl, hj, -⟩ := hear_lt h1
      have hok := h.ok
      have hal := hok.al
      have h5 := hok.n5
      have hR1 := hA.keep b1
      obtain ⟨W4, hup, hM4, g4⟩ := hR1.am.put (k := j) (by omega) (by omega)
      have hM5 : Ma W4 ma (acP R (j : Int)) := by unfold acP; rw [Int.toNat_natCast]; exact hM4
      have hR4 := hR1.acc hM5 g4
      have hcl := cntB_le (acP R (j : Int))
      have hcl2 : (acP R (j : Int)).length = R.n := by unfold acP; rw [List.length_set]; exact hal
      generalize hN : cntB (acP R (j : Int)) = N at hcl
      have hlen := fun ty => hR4.am.len ty
      dsimp only at hlen
      rw [hN] at hlen
      have hF4 : Frm (bks b mp ma) w W4 := (frm_below hw1).trans (frm_grown g4 (.inr (.inr rfl)))
      clear h1 hM4 hM5
      go_upto_region 4 with fail
      obtain ⟨d0, -, -, -, d7, d8, d9⟩ := hear_cells hR4
      have hbv := Below.refl W4.heap.size W4
      clear hup c0 c1 c2 c3 c7 c8 c9
      go_wp2_with fail
      refine (rmaj_any b R.n N _ (d0 _ hbv) (by omega)).mono ?_
      rintro e Z ⟨rfl, hZ⟩
      subst Z
      by_cases h3 : R.n < 2 * N
      · have HN : Hid (acB R (j : Int) x = true ∧ acS R (j : Int) x = { R with ac := acP R (j : Int), st := 3 }) := ac_all HK.out (by rw [hN]; exact h3)
        rw [decide_eq_true h3]
        obtain ⟨hR5, F5⟩ := hR4.stg 3
        have f7 : W4.frozen? ⟨b, 7, none⟩ = false := by obtain ⟨vo, vn, vv, hB4, -⟩ := hR4.mem; exact hB4.frozen 7
        go_wp2_with fail
        go_ret
        rw [HN.out.1, HN.out.2]
        exact ⟨rfl, hR5, hF4.trans (F5.mono fun k hk => .inl hk)⟩
      · have HN : Hid (acB R (j : Int) x = false ∧ acS R (j : Int) x = { R with ac := acP R (j : Int) }) := ac_few HK.out (by rw [hN]; exact h3)
        rw [decide_eq_false h3]
        go_wp2_with fail
        go_ret
        rw [HN.out.1, HN.out.2]
        exact ⟨rfl, hR4, hF4⟩
    · have z1 : ((R.st : Int) != 2) = true := by simp; omega
      have HN : Hid (acB R k x = false ∧ acS R k x = R) := ac_no (by unfold acK; rw [decide_eq_false h2]; simp)
      clear h1 h2
      go_wp2_with fail
      go_ret
      exact pme_no h hw1 HN.out.1 HN.out.2
end Go.Proofs.Ytpcejajidhfmpaa
