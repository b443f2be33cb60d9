/-
  stream's Cut, where there are as many places as lanes.
-/
import Derived.Test.YteffpgodookebaaGreatPk33
namespace Go.Proofs.YteffpgodookebaaGreat
open Go.RowKit
set_option linter.unusedVariables false
set_option maxRecDepth 100000

/-- The places of a cut, on the way. -/
structure Cq (w W : World) (B bs b : Nat) (vr vh : Value) (gc cap : Nat) (S : Sm) (ps : List (Int × Int)) (k : Nat) : Prop where
  bx : Blk W bs #[sptr b] 71
  blk : Blk W b (stC S vr vh (.slice (some ⟨gc, 0, none⟩) S.ct.length cap)) 152
  re : Io W B vr S.res
  he : EO E5 49 W B vh S.ho
  ce : Rw E2 89 W gc cap (mixP S.ct ps k)
  fr : Frm (fun r => gc = r) w W
theorem Cq.keep {w W W' : World} {B bs b : Nat} {vr vh : Value} {gc cap : Nat} {S : Sm} {ps : List (Int × Int)} {k : Nat} (h : Cq w W B bs b vr vh gc cap S ps k) (hb : Below W.heap.size W W') : Cq w W' B bs b vr vh gc cap S ps k :=
  ⟨h.bx.keep hb, h.blk.keep hb, h.re.keep hb, h.he.keep hb, h.ce.keep hb, h.fr.trans (frm_below hb)⟩
theorem Cq.set {w W W' : World} {B bs b : Nat} {vr vh : Value} {gc cap : Nat} {S : Sm} {ps : List (Int × Int)} {k k' : Nat} (h : Cq w W B bs b vr vh gc cap S ps k) (hc : Chg gc W W') (hr : Rw E2 89 W' gc cap (mixP S.ct ps k')) : Cq w W' B bs b vr vh gc cap S ps k' := by
  have hk := h.ce.kind
  have h1 : bs ≠ gc := fun e => absurd (h.bx.kindR.uniq (e ▸ hk)) (by decide)
  have h2 : b ≠ gc := fun e => absurd (h.blk.kindR.uniq (e ▸ hk)) (by decide)
  exact ⟨h.bx.chg hc h1, h.blk.chg hc h2, own_chgT h.re hc (fun e => absurd ((own_kindR h.re e).uniq hk) (by decide)), own_chgT h.he hc (fun e => absurd ((own_kindR h.he e).uniq hk) (by decide)), hr, h.fr.trans (frm_chg hc rfl)⟩
set_option maxHeartbeats 4000000 in
theorem scut_ok {B b : Nat} {vr vh vc : Value} {S : Sm} (vp : Value) (ps : List (Int × Int)) (w : World) (h : Sq w B b vr vh vc S) (hp : ER E2 w vp ps) (hx : OutB vp (fun r => vc.ownBlock = some r)) (hN : (ps.length : Int) = lanS S) (hf : ∀ p ∈ ps, J64 p.1 ∧ J64 p.2) :
    Calls Tryz.prog 109 #[sptr b, vp] w fun e w' => e = .returned (.tuple #[.int .i64 ((S.ho.length : Int) - ((cutS S ps).ho.length : Int)), .nilIface]) ∧ ∃ vh', Sq w' B b vr vh' vc (cutS S ps) ∧ Ms b vc w w' vh vh' := by
  have hlan := h.ok.lan
  have hcl := h.ok.cl
  have hps : ps.length = S.ct.length := by omega
  have hOKc := oks_cutC h.ok hps hf
  have hOKd := oks_cut h.ok hps hf
  obtain ⟨gc, cap, rfl⟩ := h.ce.at0 (by omega)
  obtain ⟨A, hE, hX, hw⟩ := blk1 w #[sptr b] 71
  have hA := h.keep hw
  have hpA := hp.keep hw
  obtain ⟨qr, cr, er⟩ := hA.re.is.form
  obtain ⟨c0, c1, c2, -⟩ := hA.cells A (Below.refl _ _)
  have x0 : A.cell? ⟨w.heap.size, 0, none⟩ = some (sptr b) := hX.at rfl
  rw [er] at c0
  obtain ⟨hRc, hBc⟩ := hA.ce.rw
  have hQ0 : Cq w A B w.heap.size b vr vh gc cap S ps 0 := ⟨hX, hA.blk, hA.re, hA.he, by rw [mixP_0]; exact hRc, frm_below hw⟩
  have hb0 : ((ps.length : Int) != (S.res.length : Int) * S.sh) = false := by
    unfold lanS at hN; simpa using hN
  have hcap := hRc.1
  obtain ⟨qp, cp, gp, op, rfl, hpc, hpm, hpp, -⟩ := hp.at
  have HER : ∀ W, Frm (fun r => gc = r) w W → ER E2 W (.slice qp ps.length cp) ps := fun W hf => hp.frm hf (fun a n c e r => hx a n c e (by rw [← r]; rfl))
  generalize hn : ps.length = n at *
  have HPS : Hid (n = S.ct.length) := hps
  have hn12 : n ≤ 12 := by omega
  have hcl1 : 1 ≤ S.ct.length := by omega
  clear hRc hN hps hcl hlan
  go_enter Tryz.func109, Tryz.ntmps109
  go_upto_region 3 with (go_at_call 87; refine (slanes_any qr S.res.length cr S.sh S.hd _ h.ok.r1 h.ok.s0 h.ok.s1).mono ?_; rintro e W2 ⟨rfl, b2⟩)
  have hQ2 := hQ0.keep b2
  clear hQ0 hE c0 c1 c2 x0 hpA hA hX b2 hp
  go_wp2_with fail
  go_loopw [25] (fun x wr => ∃ k : Nat, x = .int .i64 (k : Int) ∧ k ≤ n ∧ Cq w wr B w.heap.size b vr vh gc cap S ps k) (fun x _ => n - (intOf x).toNat)
  case atStart => exact ⟨0, rfl, Nat.zero_le _, hQ2⟩
  case round =>
    clear hQ2
    obtain ⟨k, rfl, hk, hQ⟩ := hrel
    by_cases c : k = n
    · subst c
      have hnc := HPS.out
      have hC : Rw E2 89 wr gc cap (cutC S ps).ct := by
        have := hQ.ce
        rw [hnc, mixP_all (by omega)] at this
        exact this
      have hS : Sq wr B b vr vh (.slice (some ⟨gc, 0, none⟩) S.ct.length cap) (cutC S ps) := by
        have hl : (cutC S ps).ct.length = S.ct.length := by
          show (List.zipWith mxP S.ct ps).length = _
          rw [List.length_zipWith]; omega
        have := hC.eo hBc (i := S.ct.length) (by omega)
        rw [List.take_of_length_le (by omega)] at this
        exact ⟨hQ.blk, h.ge, hQ.re, hQ.he, this, hOKc⟩
      have hCw : Cw wr B w.heap.size b vr vh (.slice (some ⟨gc, 0, none⟩) S.ct.length cap) (cutC S ps) := ⟨hQ.bx, hS.blk, hS.re, hS.ce, hOKc⟩
      have hM : Ms b (.slice (some ⟨gc, 0, none⟩) S.ct.length cap) w wr vh vh := ⟨hQ.fr.mono fun r hr => .inr (.inr (by rw [← hr]; rfl)), fun _ h => .inl h⟩
      have hho := hOKc.len
      have hfi := hOKc.fit
      obtain ⟨qh, ch, eh⟩ := hS.he.form
      have x0 : wr.cell? ⟨w.heap.size, 0, none⟩ = some (sptr b) := hQ.bx.at rfl
      have x9 : wr.cell? ⟨b, 9, none⟩ = some (.slice qh (cutC S ps).ho.length ch) := by rw [← eh]; exact hS.blk.at rfl
      clear hQ hC HER hpp hx
      go_upto_region 11 with fail
      refine region_L 9 (S := fun w' => w'.cell? ⟨w.heap.size, 0, none⟩ = some (sptr b) ∧ w'.cell? ⟨b, 9, none⟩ = some (.slice qh (cutC S ps).ho.length ch)) (by kernel_rfl) ⟨x0, x9⟩ (fun hHeld => ?_)
      have bV : Below wr.heap.size wr wr.drew := ab_drew (Below.refl _ _)
      have hSV := hS.keep bV
      have hCV := hCw.keep bV
      have hMV := hM.trans (ms_below vh bV)
      clear hS hCw hM x0 x9 bV
      generalize wr.drew = V at *
      refine takeL (i := 0) [9] (some 53) (by rfl) rfl rfl (by kernel_rfl) (by kernel_rfl) (by kernel_rfl) (by kernel_rfl) (fun _ _ _ h => h) (by rfl) (fun w hSw => by (try dsimp only at hSw); (obtain ⟨x0, x9⟩ := hSw; go_simp; try rfl)) hHeld ?_
      go_frame
      refine takeL (i := 1) [9] (some 54) (by rfl) rfl rfl (by kernel_rfl) (by kernel_rfl) (by kernel_rfl) (by kernel_rfl) (fun _ _ _ h => h) (by rfl) (fun w hSw => by (try dsimp only at hSw); (obtain ⟨x0, x9⟩ := hSw; go_simp; try rfl)) hHeld ?_
      go_frame
      refine takeP (i := 2) (some 55) (by rfl) rfl rfl (by kernel_rfl) (by kernel_rfl) (by kernel_rfl) (fun _ _ _ h => h) (by rfl) (fun w => by go_simp; try rfl) hHeld ?_
      go_frame
      refine takeP (i := 3) (some 56) (by rfl) rfl rfl (by kernel_rfl) (by kernel_rfl) (by kernel_rfl) (fun _ _ _ h => h) (by rfl) (fun w => by go_simp; try rfl) hHeld ?_
      go_frame
      refine takeL (i := 4) [9] (some 57) (by rfl) rfl rfl (by kernel_rfl) (by kernel_rfl) (by kernel_rfl) (by kernel_rfl) (fun _ _ _ h => h) (by rfl) (fun w hSw => by (try dsimp only at hSw); (obtain ⟨x0, x9⟩ := hSw; go_simp; try rfl)) hHeld ?_
      go_frame
      refine takeP (i := 5) (some 58) (by rfl) rfl rfl (by kernel_rfl) (by kernel_rfl) (by kernel_rfl) (fun _ _ _ h => h) (by rfl) (fun w => by go_simp; try rfl) hHeld ?_
      go_frame
      refine anyL_ready (rs := [6]) (by kernel_rfl) (by simp) (AllL.cons rfl (fun K hK => ?_) AllL.nil)
      go_simp
      have hVe := hSV.he
      rw [eh] at hVe
      refine (sdelete_any (cutC S ps).ho _ V hVe hCV hfi hho).mono ?_
      rintro e6 W6 ⟨v6, rfl, hO6, hf6, hn6⟩
      rw [← eh] at hf6 hn6
      obtain ⟨q6, c6, e66⟩ := hO6.form
      have hap : ¬ vh.ownBlock = some b := blk_own hSV.he hSV.blk (by decide)
      have hB6 : Blk W6 b (stC (cutC S ps) vr vh (.slice (some ⟨gc, 0, none⟩) S.ct.length cap)) 152 := hSV.blk.frm hf6 hap
      have hX6 : Blk W6 w.heap.size #[sptr b] 71 := hCV.bx.frm hf6 (blk_own hSV.he hCV.bx (by decide))
      have hR6 : Io W6 B vr S.res := hSV.re.frm hf6 (fun k hk hi => absurd ((own_kindR hSV.he hk).uniq hi) (by decide))
      have hC6 : EO E2 89 W6 B (.slice (some ⟨gc, 0, none⟩) S.ct.length cap) (cutC S ps).ct := own_at hSV.ce fun g hg => hf6.other g (World.ownsRow.lt hSV.ce g hg).2 (fun hk => sep_ty hSV.he hSV.ce (by decide) g hk hg)
      have m6 : Ms b (.slice (some ⟨gc, 0, none⟩) S.ct.length cap) w W6 vh v6 := hMV.trans ⟨hf6.mono fun k hk => .inr (.inl hk), fun r hr => .inl (hn6 r hr)⟩
      have x0 : W6.cell? ⟨w.heap.size, 0, none⟩ = some (sptr b) := hX6.at rfl
      have x9 : W6.cell? ⟨b, 9, none⟩ = some (.slice qh (cutC S ps).ho.length ch) := by rw [← eh]; exact hB6.at rfl
      have f9 := hB6.frozen 9
      show K _ _
      refine hK.out _ _ ⟨x0, x9⟩ (fun hHeld => ?_)
      clear hK K
      rw [e66]
      have HO6 : Hid (EO E5 49 W6 B v6 (cutS S ps).ho) := hO6
      have HE66 : Hid (v6 = .slice q6 (cutS S ps).ho.length c6) := e66
      have HR6 : Hid (Io W6 B vr S.res) := hR6
      have HC6 : Hid (EO E2 89 W6 B (.slice (some ⟨gc, 0, none⟩) S.ct.length cap) (cutC S ps).ct) := hC6
      rw [show (List.filter (fun o => !cov5 (cutC S ps) o) (cutC S ps).ho).length = (cutS S ps).ho.length from rfl]
      have hle : (cutS S ps).ho.length ≤ S.ho.length := List.length_filter_le _ _
      have hh0 : (cutC S ps).ho.length = S.ho.length := rfl
      rw [hh0]
      rw [hh0] at hho
      clear hO6 e66 hR6 hC6 hf6 hn6 hSV hCV hVe hMV x9
      generalize hN6 : (cutS S ps).ho.length = N6 at *
      have HN6 : Hid ((cutS S ps).ho.length = N6) := hN6
      clear hN6
      try go_frame
      refine takeP (i := 7) (some 60) (by rfl) rfl rfl (by kernel_rfl) (by kernel_rfl) (by kernel_rfl) (fun _ _ _ h => h) (by rfl) (fun w => by go_simp; try rfl) hHeld ?_
      go_frame
      refine takeP (i := 8) (some 61) (by rfl) rfl rfl (by kernel_rfl) (by kernel_rfl) (by kernel_rfl) (fun _ _ _ h => h) (by rfl) (fun w => by go_simp; try rfl) hHeld ?_
      go_frame
      refine anyL_ready (rs := [9]) (by kernel_rfl) (by simp) (AllL.last rfl (by kernel_rfl) (fun K hK => ?_))
      obtain ⟨-, y9⟩ := hHeld
      go_simp
      refine hK.out _ _ ?_
      clear hK K
      refine anyL_done (by kernel_rfl) ?_
      have hB7 : Blk (W6.setCell ⟨b, 9, none⟩ (.slice q6 N6 c6)) b (stC (cutC S ps) vr (.slice q6 N6 c6) (.slice (some ⟨gc, 0, none⟩) S.ct.length cap)) 152 := hB6.set 9 (.slice q6 N6 c6)
      have k7 := chg_set W6 b 9 (.slice q6 N6 c6)
      have m7 := m6.trans (ms_set (b := b) (vc := (.slice (some ⟨gc, 0, none⟩) S.ct.length cap)) W6 v6 9 (.slice q6 N6 c6))
      have hX7 := hX6.chg k7 (blk_ne hX6 hB6 (by decide))
      have g9 : (W6.setCell ⟨b, 9, none⟩ (.slice q6 N6 c6)).cell? ⟨b, 9, none⟩ = some (.slice q6 N6 c6) := hB7.at rfl
      have g0 : (W6.setCell ⟨b, 9, none⟩ (.slice q6 N6 c6)).cell? ⟨w.heap.size, 0, none⟩ = some (sptr b) := hX7.at rfl
      clear y9 f9 x0 hX6 hX7
      generalize W6.setCell ⟨b, 9, none⟩ (.slice q6 N6 c6) = W7 at *
      go_wp2_with fail
      go_ret2
      have hap6 : v6.ownBlock ≠ some b := blk_own HO6.out hB6 (by decide)
      have hapc : (Value.slice (some ⟨gc, 0, none⟩) S.ct.length cap).ownBlock ≠ some b := blk_own HC6.out hB6 (by decide)
      have hapr : vr.ownBlock ≠ some b := blk_own HR6.out hB6 (by decide)
      rw [← HE66.out] at hB7
      exact ⟨by rw [HN6.out]; rfl, v6, ⟨hB7, h.ge, own_chgT HR6.out k7 hapr, own_chgT HO6.out k7 hap6, own_chgT HC6.out k7 hapc, hOKd⟩, m7⟩
    · obtain ⟨p, hpk⟩ : ∃ p, ps[k]? = some p := ⟨ps[k], List.getElem?_eq_getElem (by omega)⟩
      obtain ⟨ct, hck⟩ : ∃ ct, S.ct[k]? = some ct := ⟨S.ct[k]'(by have := HPS.out; omega), List.getElem?_eq_getElem _⟩
      have hki : (k : Int) < (n : Int) := by omega
      have hpl : ps.length = S.ct.length := by rw [hn]; exact HPS.out
      obtain ⟨q2, cp2, g2, o2, e2, -, -, hp2, hr2⟩ := (HER wr hQ.fr).at
      rw [hn] at e2
      cases e2
      obtain ⟨rfl, hg2⟩ := hp2 (by omega)
      have z0 : wr.cell? ⟨g2, o2 + k * 2, none⟩ = some (.int .i64 p.1) := hr2 k p hpk 0 _ rfl
      have z1 : wr.cell? ⟨g2, o2 + k * 2 + 1, none⟩ = some (.int .i64 p.2) := hr2 k p hpk 1 _ rfl
      obtain ⟨A1, hE1, hX1, hw1⟩ := blk1 wr #[.int .i64 p.1, .int .i64 p.2] 89
      have hQ1 := hQ.keep hw1
      have hmk : (mixP S.ct ps k)[k]? = some ct := by rw [mixP_at hpl (by omega)]; exact hck
      have hcap2 := hQ1.ce.1
      rw [mixP_len hpl (by omega)] at hcap2
      have y0 : ∀ y : Cls A1, y.val.cell? ⟨w.heap.size, 0, none⟩ = some (sptr b) := fun y => (hQ1.bx.keep y.prop).at rfl
      have y1 : ∀ y : Cls A1, y.val.cell? ⟨b, 10, none⟩ = some (.slice (some ⟨gc, 0, none⟩) S.ct.length cap) := fun y => (hQ1.blk.keep y.prop).at rfl
      have y2 : ∀ y : Cls A1, y.val.cell? ⟨gc, k * 2, none⟩ = some (.int .i64 ct.1) := fun y => (hQ1.ce.keep y.prop).cell (i := 0) hmk rfl
      have y3 : ∀ y : Cls A1, y.val.cell? ⟨gc, k * 2 + 1, none⟩ = some (.int .i64 ct.2) := fun y => (hQ1.ce.keep y.prop).cell (i := 1) hmk rfl
      have y4 : ∀ y : Cls A1, y.val.cell? ⟨wr.heap.size, 0, none⟩ = some (.int .i64 p.1) := fun y => (hX1.keep y.prop).at rfl
      have y5 : ∀ y : Cls A1, y.val.cell? ⟨wr.heap.size, 1, none⟩ = some (.int .i64 p.2) := fun y => (hX1.keep y.prop).at rfl
      have hkc : (k : Int) < (S.ct.length : Int) := by have := HPS.out; omega
      have hkc' : k < S.ct.length := by omega
      go_upto_region 6 with fail
      have HZ := cls_some A1
      refine wp_region_below (by kernel_rfl) (by kernel_rfl) ?_
      repeat (go_big_quiet_step (first | (go_at_call 134; exact calls_below (pless_any _ _ _ _ _))))
      refine wpQuiet_nil ?_
      rintro _ ⟨y, rfl⟩
      have hQV := hQ1.keep y.prop
      have r0 : ∀ W, Below y.val.heap.size y.val W → W.cell? ⟨w.heap.size, 0, none⟩ = some (sptr b) := fun W hb => (hQV.bx.keep hb).at rfl
      have r1 : ∀ W, Below y.val.heap.size y.val W → W.cell? ⟨b, 10, none⟩ = some (.slice (some ⟨gc, 0, none⟩) S.ct.length cap) := fun W hb => (hQV.blk.keep hb).at rfl
      have r4 : ∀ W, Below y.val.heap.size y.val W → W.cell? ⟨wr.heap.size, 0, none⟩ = some (.int .i64 p.1) := fun W hb => ((hX1.keep y.prop).keep hb).at rfl
      have r5 : ∀ W, Below y.val.heap.size y.val W → W.cell? ⟨wr.heap.size, 1, none⟩ = some (.int .i64 p.2) := fun W hb => ((hX1.keep y.prop).keep hb).at rfl
      clear y0 y1 y2 y3 y4 y5 HZ hQ1 hQ hX1 hw1 hE1 z0 z1 hr2 hp2 HER hpp hx
      generalize y.val = V at *
      cases hpl2 : pl ct.1 ct.2 p.1 p.2
      · have hmx : mxP ct p = ct := by unfold mxP; rw [hpl2]; rfl
        have hQn : Cq w V B w.heap.size b vr vh gc cap S ps (k + 1) := by
          refine ⟨hQV.bx, hQV.blk, hQV.re, hQV.he, ?_, hQV.fr⟩
          rw [mixP_same hpl hck hpk hmx]
          exact hQV.ce
        go_wp2_with fail
        exact ⟨⟨k + 1, by go_num, by omega, hQn⟩, by simp [intOf]; omega⟩
      · have hmx : mxP ct p = p := by unfold mxP; rw [hpl2]; rfl
        go_upto_region 7 with fail
        refine region_L 7 (S := fun w' => Below V.heap.size V w') (by kernel_rfl) ((Below.refl _ _).drew) (fun hHeld => ?_)
        have hQd := hQV.keep hHeld
        refine takeL (i := 0) [7] (some 39) (by rfl) rfl rfl (by kernel_rfl) (by kernel_rfl) (by kernel_rfl) (by kernel_rfl) (fun _ _ _ h => h) (by rfl) (fun w hSw => by (try dsimp only at hSw); (have x0 := r0 _ hSw; go_simp; try rfl)) hHeld ?_
        go_frame
        refine takeP (i := 1) (some 40) (by rfl) rfl rfl (by kernel_rfl) (by kernel_rfl) (by kernel_rfl) (fun _ _ _ h => h) (by rfl) (fun w => by go_simp; try rfl) hHeld ?_
        go_frame
        refine takeP (i := 2) (some 41) (by rfl) rfl rfl (by kernel_rfl) (by kernel_rfl) (by kernel_rfl) (fun _ _ _ h => h) (by rfl) (fun w => by go_simp; try rfl) hHeld ?_
        go_frame
        refine takeL (i := 3) [7] (some 42) (by rfl) rfl rfl (by kernel_rfl) (by kernel_rfl) (by kernel_rfl) (by kernel_rfl) (fun _ _ _ h => h) (by rfl) (fun w hSw => by (try dsimp only at hSw); (have x0 := r1 _ hSw; go_simp; try rfl)) hHeld ?_
        go_frame
        refine takeP (i := 4) (some 43) (by rfl) rfl rfl (by kernel_rfl) (by kernel_rfl) (by kernel_rfl) (fun _ _ _ h => h) (by rfl) (fun w => by go_simp; try rfl) hHeld ?_
        go_frame
        refine takeL (i := 5) [7] (some 44) (by rfl) rfl rfl (by kernel_rfl) (by kernel_rfl) (by kernel_rfl) (by kernel_rfl) (fun _ _ _ h => h) (by rfl) (fun w hSw => by (try dsimp only at hSw); (have x0 := r4 _ hSw; have x1 := r5 _ hSw; go_simp; try rfl)) hHeld ?_
        go_frame
        refine takeP (i := 6) (some 45) (by rfl) rfl rfl (by kernel_rfl) (by kernel_rfl) (by kernel_rfl) (fun _ _ _ h => h) (by rfl) (fun w => by go_simp; try rfl) hHeld ?_
        go_frame
        refine anyL_ready (rs := [7]) (by kernel_rfl) (by simp) (AllL.last rfl (by kernel_rfl) (fun K hK => ?_))
        rw [if_pos (by rfl)]
        refine st_rwPW none rfl rfl (c := p) hQd.ce (by rw [mixP_len hpl (by omega)]; exact hkc') rfl rfl ?_
        intro W3 hR3 C3
        rw [← hmx, ← mixP_next hpl hck hpk] at hR3
        have hQn := hQd.set C3 hR3
        refine hK.out _ _ ?_
        clear hK K
        refine anyL_done (by kernel_rfl) ?_
        go_wp2_with fail
        exact ⟨⟨k + 1, by go_num, by omega, hQn⟩, by simp [intOf]; omega⟩
end Go.Proofs.YteffpgodookebaaGreat
