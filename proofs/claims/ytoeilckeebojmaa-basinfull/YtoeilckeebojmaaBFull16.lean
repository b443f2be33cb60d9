/-
  Few cells: estuarylaw16.BasinFull returns true for every input; no condition.
-/
import Derived.Test.YtoeilckeebojmaaPk52
import Derived.Test.YtoeilckeebojmaaPk49
import Derived.Test.YtoeilckeebojmaaPk08
import Derived.ProofKit
import Derived.OpenShut
import Derived.ChangeOld
import Derived.Below
namespace Go.Proofs.Ytoeilckeebojmaa.basinFull
open Go.ChangeShapes Go.WideShapes Go.ChangeAt Go.RowKit Go.Joins
set_option linter.unusedVariables false
set_option maxRecDepth 100000

theorem ne00 (w : World) : (binOp .neq 32 .nilIface .nilIface).run Try.prog w = .ok (.bool false) w := by kernel_rfl
theorem er0 : errV 0 = .nilIface := rfl
theorem er7 : errV 7 = Err 7 := rfl
theorem er2 : errV 2 = Err 2 := rfl
theorem er11 : errV 11 = Err 11 := rfl
theorem e70 (w : World) : (binOp .neq 32 (Err 7) .nilIface).run Try.prog w = .ok (.bool true) w := by kernel_rfl
theorem e77 (w : World) : (binOp .neq 32 (Err 7) (Err 7)).run Try.prog w = .ok (.bool false) w := by kernel_rfl
theorem e27 (w : World) : (binOp .neq 32 (Err 2) (Err 7)).run Try.prog w = .ok (.bool true) w := by kernel_rfl
theorem eb0 (w : World) : (binOp .neq 32 (Err 11) .nilIface).run Try.prog w = .ok (.bool true) w := by kernel_rfl
theorem eb7 (w : World) : (binOp .neq 32 (Err 11) (Err 7)).run Try.prog w = .ok (.bool true) w := by kernel_rfl
theorem q00 (w : World) : (binOp .eql 32 .nilIface .nilIface).run Try.prog w = .ok (.bool true) w := by kernel_rfl
theorem q07 (w : World) : (binOp .eql 32 .nilIface (Err 7)).run Try.prog w = .ok (.bool false) w := by kernel_rfl
theorem q70 (w : World) : (binOp .eql 32 (Err 7) .nilIface).run Try.prog w = .ok (.bool false) w := by kernel_rfl
theorem q77 (w : World) : (binOp .eql 32 (Err 7) (Err 7)).run Try.prog w = .ok (.bool true) w := by kernel_rfl
theorem q27 (w : World) : (binOp .eql 32 (Err 2) (Err 7)).run Try.prog w = .ok (.bool false) w := by kernel_rfl
theorem qb7 (w : World) : (binOp .eql 32 (Err 11) (Err 7)).run Try.prog w = .ok (.bool false) w := by kernel_rfl
theorem ne20 (w : World) : (binOp .neq 32 (Err 2) .nilIface).run Try.prog w = .ok (.bool true) w := by kernel_rfl
/-- How far the law has come: a basin of the case's size, no cell of it ahead of its base. -/
structure FuI (A wr : World) (K : Bkk) (x : CeD) (T : Bsn) : Prop where
  bq : Bq wr A.heap.size K T
  res : T.res = x.res
  sh : T.sh = x.sh
  mo : T.mo = x.mo
  np : npB T
  bel : Below A.heap.size A wr
theorem FuI.keep {A wr wr' : World} {K : Bkk} {x : CeD} {T : Bsn} (h : FuI A wr K x T) (hb : Below wr.heap.size wr wr') : FuI A wr' K x T := ⟨h.bq.keep hb, h.res, h.sh, h.mo, h.np, ab_trans h.bel hb⟩
theorem np_new (n : Nat) (res : List Int) (sh mo : Int) : npB (newBsn n res sh mo) := fun k hk => by cases hk
theorem Bq.less16 {W : World} {B B' : Nat} {K : Bkk} {S : Bsn} (h : Bq W B K S) (hb : B' ≤ B) : Bq W B' K S := ⟨h.blk, Nat.le_trans hb h.ge, h.re.less hb, h.fe, Nat.le_trans hb h.gef, h.be, Nat.le_trans hb h.geb, h.ce, Nat.le_trans hb h.gem, h.ok⟩
theorem new_pos {n : Int} {res : List Int} {sh mo : Int} (h : newOK n res sh mo = true) : 1 ≤ n := by
  unfold newOK at h
  simp only [Bool.and_eq_true, decide_eq_true_eq] at h
  omega
set_option maxHeartbeats 4000000 in
theorem fu_walk (x : CeD) (w : World) (h : CeZ w x) : Calls Try.prog 4 #[.agg (ceA x)] w fun e w' => e = .returned (.bool true) ∧ Below w.heap.size w w' := by
  obtain ⟨A, hE, hX, hw⟩ := blk1 w (ceA x) 62
  have hA := h.keep hw
  have HX : Hid (∀ V, Below A.heap.size A V → V.cell? ⟨w.heap.size, 0, none⟩ = some (.int .i64 x.sr) ∧ V.cell? ⟨w.heap.size, 1, none⟩ = some (.slice x.qr x.nr x.cr) ∧ V.cell? ⟨w.heap.size, 2, none⟩ = some (.int .i64 x.sh) ∧ V.cell? ⟨w.heap.size, 3, none⟩ = some (.int .i64 x.mo) ∧ V.cell? ⟨w.heap.size, 4, none⟩ = some (.slice x.q x.n x.cap)) := fun V hb => ⟨(hX.keep hb).at rfl, (hX.keep hb).at rfl, (hX.keep hb).at rfl, (hX.keep hb).at rfl, (hX.keep hb).at rfl⟩
  have e00 := ne00
  have e20 := ne20
  have HLo := fun V hV => long16_any x V hV
  unfold ceA at hE HLo ⊢
  clear h hX
  go_enter Try.func4, Try.ntmps4
  go_upto_region 3 with (go_at_call 8; refine (alive16_any _).mono ?_; rintro e W1 ⟨rfl, a1⟩)
  clear hE
  obtain ⟨x0, x1, x2, x3, x4⟩ := HX.out W1 a1
  go_upto_region 5 with (go_at_call 17; refine (HLo _ (hA.keep a1)).mono ?_; rintro e W2 ⟨⟨lb, rfl⟩, a2⟩; cases lb)
  · have a2 := ab_trans a1 a2
    obtain ⟨x0, x1, x2, x3, x4⟩ := HX.out W2 a2
    clear HLo
    have hA2 := hA.keep a2
    cases cn : newOK x.sr x.res x.sh x.mo
    · have HN := banew_no _ _ x.res _ _ _ hA2.re cn
      clear cn hA2 hA
      go_upto_region 6 with (go_at_call 9; refine HN.mono ?_; rintro e W3 ⟨rfl, hW3⟩; subst W3)
      clear x0 x1 x2 x3 x4 HN
      go_wp2_with fail
      go_ret
      exact ⟨rfl, ab_trans hw a2⟩
    · obtain ⟨n, hn⟩ : ∃ n : Nat, x.sr = (n : Int) := ⟨x.sr.toNat, by have := new_pos cn; omega⟩
      have HN := banew_ok n _ x.res x.sh x.mo W2 hA2.re (fun r hr => (hA2.rb r hr).2) (hn ▸ cn)
      rw [← hn] at HN
      clear hA2 cn hn
      go_upto_region 6 with (go_at_call 9; refine HN.mono ?_; rintro e W3 ⟨⟨KK, rfl, hB3⟩, b3⟩)
      clear x0 x1 x2 x3 x4 HN
      go_upto_region 8 with fail
      have hI3 : FuI A W3 KK x (newBsn n x.res x.sh x.mo) := ⟨Bq.less16 hB3 a2.size, rfl, rfl, rfl, np_new _ _ _ _, ab_trans a2 b3⟩
      obtain ⟨-, -, -, -, z4⟩ := HX.out W3 hI3.bel
      generalize newBsn n x.res x.sh x.mo = T3 at *
      clear hB3 b3 a1 a2
      go_wp2_with fail
      clear z4
      have hr := hA.row
      obtain ⟨nn, hnn⟩ : ∃ nn, nn = x.n := ⟨_, rfl⟩
      have HLn : Hid (x.os.length = nn) := hr.len.trans hnn.symm
      have HRe : Hid (∀ V, Below A.heap.size A V → Is V (.slice x.qr x.nr x.cr) x.res ∧ ∀ r ∈ x.res, r ≤ 9223372036854775807) := fun V hV => ⟨(hA.keep hV).re, fun r hr => (hA.rb r hr).2⟩
      have HRo : Hid (∀ V, Below A.heap.size A V → SeRow V x.q x.n x.cap x.g x.off x.os) := fun V hV => hr.keep hV
      rw [← hnn] at *
      clear hr hA hnn
      generalize x.q = xq at *
      generalize x.cap = xcap at *
      generalize x.g = xg at *
      generalize x.off = xoff at *
      go_loopw [40] (fun z wr => ∃ (k : Nat) (T : Bsn), k ≤ nn ∧ z = .int .i64 (k : Int) ∧ FuI A wr KK x T) (fun z _ => nn - (intOf z).toNat)
      case atStart => exact ⟨0, _, by omega, rfl, hI3⟩
      case round =>
        clear hI3
        obtain ⟨k, T, hk, rfl, hI⟩ := hrel
        by_cases c : k = nn
        · subst c
          go_wp2_with fail
          go_ret
          exact ⟨rfl, ab_trans hw hI.bel⟩
        · obtain ⟨y, hy⟩ : ∃ y, x.os[k]? = some y := ⟨x.os[k]'(by have := HLn.out; omega), List.getElem?_eq_getElem (by have := HLn.out; omega)⟩
          have hki : (k : Int) < (nn : Int) := by omega
          have hr := HRo.out wr hI.bel
          have hnm : nn ≤ 9223372036854775807 := Nat.le_trans hr.fits hr.max
          have hyA := (HRo.out A (Below.refl _ _)).row k y hy
          have hy2 := hr.row k y hy
          obtain rfl := hr.ptr (by omega)
          clear hr hy
          obtain ⟨kd, sr, ynx, fr, la, vc, cu, vo, ops, p⟩ := y
          obtain ⟨qc, cc, ec⟩ := hy2.sc.form
          obtain ⟨qo, co, eo⟩ := hy2.so.form
          dsimp only at ec eo
          subst ec
          subst eo
          have hf := hy2.fit
          have hfew := hy2.few
          have z0 := hy2.c0
          have z1 := hy2.c1
          have z2 := hy2.c2
          have z3 := hy2.c3
          have z4 := hy2.c4
          have z5 := hy2.c5
          have z6 := hy2.c6
          have z7 := hy2.c7
          have z8 := hy2.c8
          dsimp only at z0 z1 z2 z3 z4 z5 z6 z7 z8 hfew
          have hsc := hyA.sc
          have hso := hyA.so
          dsimp only at hsc hso
          clear hy2 hyA
          obtain ⟨A2, hE2, hX2, hw2⟩ := blk1 wr #[.int .i64 kd, .int .i64 sr, .bool ynx, .int .i64 fr, .int .i64 la, .slice qc cu.length cc, .slice qo ops.length co, .int .i64 p.1, .int .i64 p.2] 64
          have hI2 := hI.keep hw2
          have hKA : ∀ k, bkB KK k → A.heap.size ≤ k := fun k hk => (hI.bq.bks hk).1
          have hgy : ¬ bkB KK wr.heap.size := fun hk => absurd (hI.bq.bks hk).2 (Nat.lt_irrefl _)
          have hge := hI.bel.size
          have HY : Hid (∀ V, Blk V wr.heap.size #[.int .i64 kd, .int .i64 sr, .bool ynx, .int .i64 fr, .int .i64 la, .slice qc cu.length cc, .slice qo ops.length co, .int .i64 p.1, .int .i64 p.2] 64 → V.cell? ⟨wr.heap.size, 0, none⟩ = some (.int .i64 kd) ∧ V.cell? ⟨wr.heap.size, 1, none⟩ = some (.int .i64 sr) ∧ V.cell? ⟨wr.heap.size, 2, none⟩ = some (.bool ynx) ∧ V.cell? ⟨wr.heap.size, 3, none⟩ = some (.int .i64 fr) ∧ V.cell? ⟨wr.heap.size, 4, none⟩ = some (.int .i64 la) ∧ V.cell? ⟨wr.heap.size, 5, none⟩ = some (.slice qc cu.length cc) ∧ V.cell? ⟨wr.heap.size, 6, none⟩ = some (.slice qo ops.length co) ∧ V.cell? ⟨wr.heap.size, 7, none⟩ = some (.int .i64 p.1) ∧ V.cell? ⟨wr.heap.size, 8, none⟩ = some (.int .i64 p.2)) := fun V hb => ⟨hb.at rfl, hb.at rfl, hb.at rfl, hb.at rfl, hb.at rfl, hb.at rfl, hb.at rfl, hb.at rfl, hb.at rfl⟩
          obtain ⟨y0, y1, y2, y3, y4, y5, y6, y7, y8⟩ := HY.out A2 hX2
          clear hI
          by_cases hkd : kd = 0
          · have HF : Hid (SeF ⟨kd, sr, ynx, fr, la, .slice qc cu.length cc, cu, .slice qo ops.length co, ops, p⟩) := hf
            have HX2 : Hid (Blk A2 wr.heap.size #[.int .i64 kd, .int .i64 sr, .bool ynx, .int .i64 fr, .int .i64 la, .slice qc cu.length cc, .slice qo ops.length co, .int .i64 p.1, .int .i64 p.2] 64) := hX2
            have HSC : Hid (ER E2 A (.slice qc cu.length cc) cu) := hsc
            have HSO : Hid (ER E5 A (.slice qo ops.length co) ops) := hso
            clear hf hX2 hsc hso
            have hk1 : (kd != 0) = false := by simp [hkd]
            clear hkd
            go_upto_region 13 with fail
            clear hE2 y0 y1 y2 y3 y4 y5 y6 y7 y8 z0 z1 z2 z3 z4 z5 z6 z7 z8
            have HNx : Hid (∀ V, Below A2.heap.size A2 V → Calls Try.prog 12 #[bptr KK, .int .i64 sr] V fun e w' => e = .returned (.int .i64 (nxN T sr)) ∧ w' = V) := fun V hb => banext_any sr V (hI2.bq.keep hb)
            obtain ⟨nx, hnx⟩ : ∃ nx, nxN T sr = nx := ⟨_, rfl⟩
            rw [hnx] at HNx
            have HFd : Hid (∀ V, Below A2.heap.size A2 V → Calls Try.prog 19 #[.agg #[.int .i64 kd, .int .i64 sr, .bool ynx, .int .i64 fr, .int .i64 la, .slice qc cu.length cc, .slice qo ops.length co, .int .i64 p.1, .int .i64 p.2], .int .i64 nx] V fun e w' => FedE KK e w' ⟨kd, sr, ynx, fr, la, .slice qc cu.length cc, cu, .slice qo ops.length co, ops, p⟩ nx ∧ Below V.heap.size V w') := fun V hb => fed16_any ⟨kd, sr, ynx, fr, la, .slice qc cu.length cc, cu, .slice qo ops.length co, ops, p⟩ nx V (stay_in HSO.out hKA (ab_trans hI2.bel hb)) HF.out hfew (fun k hk => Nat.lt_of_lt_of_le (hI2.bq.bks hk).2 hb.size)
            have HI2 : Hid (FuI A A2 KK x T) := hI2
            clear hI2
            refine wp_region_held_drew (S := fun w' => Below A2.heap.size A2 w') (by kernel_rfl) (ab_drew (Below.refl _ _)) (fun hHeld => ?_)
            refine takeH (i := 0) (some 54) rfl rfl (by kernel_rfl) (by kernel_rfl) (by kernel_rfl) (fun _ _ _ h => h) (by rfl) (fun w hSw => by (try dsimp only at hSw); (obtain ⟨q0, q1, q2, q3, q4, q5, q6, q7, q8⟩ := HY.out _ (HX2.out.keep hSw); go_simp; try rfl)) hHeld ?_
            go_frame
            refine takeH (i := 1) (some 55) rfl rfl (by kernel_rfl) (by kernel_rfl) (by kernel_rfl) (fun _ _ _ h => h) (by rfl) (fun w hSw => by (try dsimp only at hSw); go_simp; try rfl) hHeld ?_
            go_frame
            refine takeH (i := 2) (some 56) rfl rfl (by kernel_rfl) (by kernel_rfl) (by kernel_rfl) (fun _ _ _ h => h) (by rfl) (fun w hSw => by (try dsimp only at hSw); go_simp; try rfl) hHeld ?_
            go_frame
            refine takeH (i := 3) (some 57) rfl rfl (by kernel_rfl) (by kernel_rfl) (by kernel_rfl) (fun _ _ _ h => h) (by rfl) (fun w hSw => by (try dsimp only at hSw); (obtain ⟨q0, q1, q2, q3, q4, q5, q6, q7, q8⟩ := HY.out _ (HX2.out.keep hSw); go_simp; try rfl)) hHeld ?_
            go_frame
            refine wpAnyH_ready (rs := [4]) (by kernel_rfl) (by simp) (AllReadyH.cons rfl (fun K hK => ?_) AllReadyH.nil)
            go_simp
            refine (HNx.out _ hHeld).mono ?_
            rintro e V1 ⟨rfl, rfl⟩
            show K _ _
            refine hK.out _ _ hHeld (fun hHeld => ?_)
            clear hK K
            refine wpAnyH_ready (rs := [5]) (by kernel_rfl) (by simp) (AllReadyH.cons rfl (fun K hK => ?_) AllReadyH.nil)
            go_simp
            refine (HFd.out _ hHeld).mono ?_
            rintro e V2 ⟨⟨q3, c3, rfl, hS3⟩, b3⟩
            show K _ _
            refine hK.out _ _ (ab_trans hHeld b3) (fun hHeld => ?_)
            clear hK K
            refine takeH (i := 6) (some 53) rfl rfl (by kernel_rfl) (by kernel_rfl) (by kernel_rfl) (fun _ _ _ h => h) (by rfl) (fun w hSw => by (try dsimp only at hSw); go_simp; try rfl) hHeld ?_
            go_frame
            refine takeH (i := 7) (some 60) rfl rfl (by kernel_rfl) (by kernel_rfl) (by kernel_rfl) (fun _ _ _ h => h) (by rfl) (fun w hSw => by (try dsimp only at hSw); go_simp; try rfl) hHeld ?_
            go_frame
            refine takeH (i := 8) (some 61) rfl rfl (by kernel_rfl) (by kernel_rfl) (by kernel_rfl) (fun _ _ _ h => h) (by rfl) (fun w hSw => by (try dsimp only at hSw); go_simp; try rfl) hHeld ?_
            go_frame
            refine takeH (i := 9) (some 62) rfl rfl (by kernel_rfl) (by kernel_rfl) (by kernel_rfl) (fun _ _ _ h => h) (by rfl) (fun w hSw => by (try dsimp only at hSw); go_simp; try rfl) hHeld ?_
            go_frame
            refine takeH (i := 10) (some 7) rfl rfl (by kernel_rfl) (by kernel_rfl) (by kernel_rfl) (fun _ _ _ h => h) (by rfl) (fun w hSw => by (try dsimp only at hSw); go_simp; try rfl) hHeld ?_
            go_frame
            refine takeH (i := 11) (some 8) rfl rfl (by kernel_rfl) (by kernel_rfl) (by kernel_rfl) (fun _ _ _ h => h) (by rfl) (fun w hSw => by (try dsimp only at hSw); go_simp; try rfl) hHeld ?_
            go_frame
            refine takeH (i := 12) (some 9) rfl rfl (by kernel_rfl) (by kernel_rfl) (by kernel_rfl) (fun _ _ _ h => h) (by rfl) (fun w hSw => by (try dsimp only at hSw); go_simp; try rfl) hHeld ?_
            go_frame
            refine wpAnyH_done (by kernel_rfl) ?_ _
            have HOf : ∀ o ∈ feO ⟨kd, sr, ynx, fr, la, .slice qc cu.length cc, cu, .slice qo ops.length co, ops, p⟩ nx, Fit5 o := feO_fit HF.out nx
            have HlJ : J64 (feL ⟨kd, sr, ynx, fr, la, .slice qc cu.length cc, cu, .slice qo ops.length co, ops, p⟩ nx) := feL_J HF.out nx
            have hI3 := HI2.out.keep hHeld
            have hX3 := HX2.out.keep hHeld
            generalize feF ⟨kd, sr, ynx, fr, la, .slice qc cu.length cc, cu, .slice qo ops.length co, ops, p⟩ nx = f1 at *
            generalize feL ⟨kd, sr, ynx, fr, la, .slice qc cu.length cc, cu, .slice qo ops.length co, ops, p⟩ nx = l1 at *
            generalize feO ⟨kd, sr, ynx, fr, la, .slice qc cu.length cc, cu, .slice qo ops.length co, ops, p⟩ nx = O at *
            have HU := bafeed_u sr f1 l1 (.slice qc cu.length cc) (.slice q3 O.length c3) cu O V2 hI3.bq hI3.np (stay_in HSC.out hKA hI3.bel) hS3 HF.out.cu HOf HlJ
            obtain ⟨y0, y1, y2, y3, y4, y5, y6, y7, y8⟩ := HY.out V2 hX3
            have HS3 : Hid (Stay E5 KK V2 (.slice q3 O.length c3) O) := hS3
            have HI3 : Hid (FuI A V2 KK x T) := hI3
            have HX3 : Hid (Blk V2 wr.heap.size #[.int .i64 kd, .int .i64 sr, .bool ynx, .int .i64 fr, .int .i64 la, .slice qc cu.length cc, .slice qo ops.length co, .int .i64 p.1, .int .i64 p.2] 64) := hX3
            clear hS3 hI3 hX3 HFd HNx HX2 HI2 hHeld
            generalize hm : O.length = m at *
            generalize cu.length = ncu at *
            generalize hnop : ops.length = nop at *
            go_upto_region 15 with (go_at_call 11; refine HU.mono ?_; rintro e V5 ⟨r, T5, rfl, hB5, hF5, hU⟩)
            have hX5 := HX3.out.frm hF5 hgy
            have HI5 : Hid (FuI A V5 KK x T5) := ⟨hB5, hU.res.trans HI3.out.res, hU.sh.trans HI3.out.sh, hU.mo.trans HI3.out.mo, hU.np, HI3.out.bel.trans (hF5.below HI3.out.bel.size hKA)⟩
            have HSo : Hid (ER E5 V5 (.slice q3 m c3) O) := (HS3.out.frm hF5).er
            have hle : ¬ x.mo < ((T5.ks.length : Nat) : Int) := by have h1 := hB5.ok.kl; have h2 : T5.mo = x.mo := HI5.out.mo; omega
            have HU5 : Hid (FdU T T5 sr f1 l1 O r) := hU
            have HX5 : Hid (Blk V5 wr.heap.size #[.int .i64 kd, .int .i64 sr, .bool ynx, .int .i64 fr, .int .i64 la, .slice qc ncu cc, .slice qo nop co, .int .i64 p.1, .int .i64 p.2] 64) := hX5
            clear HU y0 y1 y2 y3 y4 y5 y6 y7 y8 HS3 HI3 HX3 hB5 hF5 hU hX5
            have HLe : Hid (∀ V, Below V5.heap.size V5 V → Calls Try.prog 16 #[bptr KK] V fun e w' => e = .returned (.int .i64 ((T5.ks.length : Nat) : Int)) ∧ w' = V) := fun V hb => blen_any V (HI5.out.bq.keep hb)
            generalize T5.ks.length = nks at *
            refine wp_region_held_drew (S := fun w' => Below V5.heap.size V5 w') (by kernel_rfl) (ab_drew (Below.refl _ _)) (fun hHeld => ?_)
            refine takeH (i := 0) (some 72) rfl rfl (by kernel_rfl) (by kernel_rfl) (by kernel_rfl) (fun _ _ _ h => h) (by rfl) (fun w hSw => by (try dsimp only at hSw); go_simp; try rfl) hHeld ?_
            go_frame
            refine takeH (i := 2) (some 74) rfl rfl (by kernel_rfl) (by kernel_rfl) (by kernel_rfl) (fun _ _ _ h => h) (by rfl) (fun w hSw => by (try dsimp only at hSw); go_simp; try rfl) hHeld ?_
            go_frame
            refine takeH (i := 3) (some 75) rfl rfl (by kernel_rfl) (by kernel_rfl) (by kernel_rfl) (fun _ _ _ h => h) (by rfl) (fun w hSw => by (try dsimp only at hSw); (obtain ⟨q0, q1, q2, q3, q4⟩ := HX.out _ (ab_trans HI5.out.bel hSw); go_simp; try rfl)) hHeld ?_
            go_frame
            refine wpAnyH_ready (rs := [1]) (by kernel_rfl) (by simp) (AllReadyH.cons rfl (fun K hK => ?_) AllReadyH.nil)
            go_simp
            refine (HLe.out _ hHeld).mono ?_
            rintro e V6 ⟨rfl, rfl⟩
            show K _ _
            refine hK.out _ _ hHeld (fun hHeld => ?_)
            clear hK K
            refine takeH (i := 4) (some 76) rfl rfl (by kernel_rfl) (by kernel_rfl) (by kernel_rfl) (fun _ _ _ h => h) (by rfl) (fun w hSw => by (try dsimp only at hSw); go_simp; try rfl) hHeld ?_
            go_frame
            refine wpAnyH_done (by kernel_rfl) ?_ _
            generalize V5.drew = V6 at *
            have hles : decide (x.mo < (nks : Int)) = false := decide_eq_false hle
            have HI6 : Hid (FuI A V6 KK x T5) := HI5.out.keep hHeld
            have HX6 : Hid (Blk V6 wr.heap.size #[.int .i64 kd, .int .i64 sr, .bool ynx, .int .i64 fr, .int .i64 la, .slice qc ncu cc, .slice qo nop co, .int .i64 p.1, .int .i64 p.2] 64) := HX5.out.keep hHeld
            have HS6 : Hid (ER E5 V6 (.slice q3 m c3) O) := HSo.out.keep hHeld
            clear hHeld HLe HI5 HX5 HSo
            go_upto_region 18 with fail
            generalize wr.heap.size = gy at *
            rcases HU5.out.cs with h0 | h7 | h2 | h11
            · subst h0
              rw [er0]
              have g1 := q00
              have g2 := q07
              go_loopw [79] (fun z V => ∃ j : Nat, j ≤ m ∧ z = .int .i64 (j : Int) ∧ Below V6.heap.size V6 V) (fun z _ => m - (intOf z).toNat)
              case atStart => exact ⟨0, by omega, rfl, Below.refl _ _⟩
              case round =>
                obtain ⟨j, hj, rfl, hV⟩ := hrel
                by_cases cj : j = m
                · subst cj
                  go_wp2_with fail
                  go_roundw
                  case rel => exact ⟨k + 1, T5, by omega, by go_num, HI6.out.keep hV⟩
                  case measure => simp [intOf]; omega
                · obtain ⟨o, ho⟩ : ∃ o, O[j]? = some o := ⟨O[j]'(by omega), List.getElem?_eq_getElem (by omega)⟩
                  have hji : (j : Int) < (m : Int) := by omega
                  obtain ⟨qz, capz, gz, offz, ez, hz1, hz2, hpz, hcz⟩ := (HS6.out.keep hV).at
                  rw [hm] at ez hpz hz1
                  injection ez with ez1 ez2 ez3
                  subst ez1
                  subst ez3
                  clear ez2
                  obtain ⟨rfl, hgz⟩ := hpz (by omega)
                  have hmm : m ≤ 9223372036854775807 := Nat.le_trans hz1 hz2
                  have w0 := hcz j o ho 0 _ rfl
                  have w1 := hcz j o ho 1 _ rfl
                  have w2 := hcz j o ho 2 _ rfl
                  have w3 := hcz j o ho 3 _ rfl
                  have w4 := hcz j o ho 4 _ rfl
                  rw [Nat.add_zero, show E5.k = 5 from rfl] at w0
                  rw [show E5.k = 5 from rfl] at w1 w2 w3 w4
                  have hom := List.mem_of_getElem? ho
                  clear hcz hpz ho hz1 hz2
                  obtain ⟨A7, hE7, hX7, hw7⟩ := blk1 wr #[.int .i64 o.s, .int .i64 o.k, .int .i64 o.t, .int .i64 o.y, .int .i64 o.v] 27
                  have v0 : A7.cell? ⟨wr.heap.size, 0, none⟩ = some (.int .i64 o.s) := hX7.at rfl
                  have v1 : A7.cell? ⟨wr.heap.size, 1, none⟩ = some (.int .i64 o.k) := hX7.at rfl
                  have v2 : A7.cell? ⟨wr.heap.size, 2, none⟩ = some (.int .i64 o.t) := hX7.at rfl
                  have v3 : A7.cell? ⟨wr.heap.size, 3, none⟩ = some (.int .i64 o.y) := hX7.at rfl
                  have v4 : A7.cell? ⟨wr.heap.size, 4, none⟩ = some (.int .i64 o.v) := hX7.at rfl
                  have hA7 := ab_trans hV hw7
                  by_cases ok1 : o.k = 1
                  · have hk7 : (o.k != 1) = false := by simp [ok1]
                    have HK2 : Hid (o.k ≠ 2) := by show _ ≠ _; omega
                    clear ok1
                    go_upto_region 21 with fail
                    refine wp_region_held_drew (S := fun w' => Below A7.heap.size A7 w') (by kernel_rfl) (ab_drew (Below.refl _ _)) (fun hHeld => ?_)
                    refine takeH (i := 0) (some 95) rfl rfl (by kernel_rfl) (by kernel_rfl) (by kernel_rfl) (fun _ _ _ h => h) (by rfl) (fun w hSw => by (try dsimp only at hSw); go_simp; try rfl) hHeld ?_
                    go_frame
                    refine takeH (i := 1) (some 96) rfl rfl (by kernel_rfl) (by kernel_rfl) (by kernel_rfl) (fun _ _ _ h => h) (by rfl) (fun w hSw => by (try dsimp only at hSw); go_simp; try rfl) hHeld ?_
                    go_frame
                    refine takeH (i := 2) (some 97) rfl rfl (by kernel_rfl) (by kernel_rfl) (by kernel_rfl) (fun _ _ _ h => h) (by rfl) (fun w hSw => by (try dsimp only at hSw); go_simp; try rfl) hHeld ?_
                    go_frame
                    refine skipH (i := 3) (some 98) rfl rfl (by kernel_rfl) (by kernel_rfl) (by kernel_rfl) (fun _ _ _ h => h) (by rfl) hHeld ?_
                    go_frame
                    refine skipH (i := 4) (some 99) rfl rfl (by kernel_rfl) (by kernel_rfl) (by kernel_rfl) (fun _ _ _ h => h) (by rfl) hHeld ?_
                    go_frame
                    refine skipH (i := 5) (some 100) rfl rfl (by kernel_rfl) (by kernel_rfl) (by kernel_rfl) (fun _ _ _ h => h) (by rfl) hHeld ?_
                    go_frame
                    refine skipH (i := 6) (some 101) rfl rfl (by kernel_rfl) (by kernel_rfl) (by kernel_rfl) (fun _ _ _ h => h) (by rfl) hHeld ?_
                    go_frame
                    refine skipH (i := 7) (some 102) rfl rfl (by kernel_rfl) (by kernel_rfl) (by kernel_rfl) (fun _ _ _ h => h) (by rfl) hHeld ?_
                    go_frame
                    refine skipH (i := 8) (some 103) rfl rfl (by kernel_rfl) (by kernel_rfl) (by kernel_rfl) (fun _ _ _ h => h) (by rfl) hHeld ?_
                    go_frame
                    refine skipH (i := 9) (some 104) rfl rfl (by kernel_rfl) (by kernel_rfl) (by kernel_rfl) (fun _ _ _ h => h) (by rfl) hHeld ?_
                    go_frame
                    refine takeH (i := 10) (some 105) rfl rfl (by kernel_rfl) (by kernel_rfl) (by kernel_rfl) (fun _ _ _ h => h) (by rfl) (fun w hSw => by (try dsimp only at hSw); go_simp; try rfl) hHeld ?_
                    go_frame
                    refine takeH (i := 11) (some 13) rfl rfl (by kernel_rfl) (by kernel_rfl) (by kernel_rfl) (fun _ _ _ h => h) (by rfl) (fun w hSw => by (try dsimp only at hSw); go_simp; try rfl) hHeld ?_
                    go_frame
                    refine wpAnyH_done (by kernel_rfl) ?_ _
                    have HTK : Hid (∀ k' ∈ idL o.t o.y x.sh x.res, decide (k' ∈ T5.ks) = !pasB T5.ba k') := by
                      have := HU5.out.all (.inl rfl) o hom HK2.out (.inl rfl)
                      rw [← HU5.out.sh, ← HU5.out.res, HI6.out.sh, HI6.out.res] at this
                      exact this
                    have HO7 : Hid (∀ V, Below A7.drew.heap.size A7.drew V → V.cell? ⟨wr.heap.size, 0, none⟩ = some (.int .i64 o.s) ∧ V.cell? ⟨wr.heap.size, 1, none⟩ = some (.int .i64 o.k) ∧ V.cell? ⟨wr.heap.size, 2, none⟩ = some (.int .i64 o.t) ∧ V.cell? ⟨wr.heap.size, 3, none⟩ = some (.int .i64 o.y) ∧ V.cell? ⟨wr.heap.size, 4, none⟩ = some (.int .i64 o.v)) := fun V hb => by
                      have hb2 : Below A7.heap.size A7 V := undrew hb
                      exact ⟨(hX7.keep hb2).at rfl, (hX7.keep hb2).at rfl, (hX7.keep hb2).at rfl, (hX7.keep hb2).at rfl, (hX7.keep hb2).at rfl⟩
                    have HA7 : Hid (Below V6.heap.size V6 A7.drew) := ab_drew hA7
                    have HFo : Hid (Fit5 o) := HOf o hom
                    clear hE7 w0 w1 w2 w3 w4 v0 v1 v2 v3 v4 hX7 hA7 hw7 hHeld hom
                    generalize wr.heap.size = gob at *
                    generalize A7.drew = V7 at *
                    obtain ⟨u0, u1, u2, u3, u4⟩ := HO7.out V7 (Below.refl _ _)
                    have hV7 := HI6.out.bel.trans (HA7.out.mono HI6.out.bel.size)
                    obtain ⟨y0, y1, y2, y3, y4⟩ := HX.out V7 hV7
                    have HId := rids_is o (.slice x.qr x.nr x.cr) x.res x.sh V7 (HRe.out V7 hV7).1 HFo.out (HRe.out V7 hV7).2 (by have := HI6.out.bq.ok.s1; have := HI6.out.sh; omega) (by have := HI6.out.bq.ok.r1; have := HI6.out.res; rw [← this]; omega)
                    have HIL : Hid (∀ k' ∈ idL o.t o.y x.sh x.res, KyOk k' ∧ 0 ≤ k'.1 ∧ k'.1 < (T5.ba.length : Int)) := fun k' hk' => ids_mem HI6.out.bq.ok HFo.out (by rw [HI6.out.sh, HI6.out.res]; exact hk')
                    have hIl : (idL o.t o.y x.sh x.res).length ≤ 3 := by rw [idL_len, ← HI6.out.res]; exact HI6.out.bq.ok.r1
                    generalize idL o.t o.y x.sh x.res = IL at *
                    unfold opV opA at HId
                    go_upto_region 23 with (go_at_call 13; refine HId.mono ?_; rintro e V8 ⟨v8, rfl, hO8, b8⟩; obtain ⟨q8, c8, e8⟩ := hO8.form; subst e8)
                    have HO8 : Hid (EO E3k 47 V8 V7.heap.size (.slice q8 IL.length c8) IL) := hO8
                    have HV8 : Hid (Below V6.heap.size V6 V8) := ab_trans HA7.out b8
                    clear hO8 HId u0 u1 u2 u3 u4 y0 y1 y2 y3 y4 b8 HA7 HO7
                    generalize hni : IL.length = ni at *
                    go_wp2_with fail
                    go_loopw [113] (fun z V => ∃ jj : Nat, jj ≤ ni ∧ z = .int .i64 (jj : Int) ∧ Below V8.heap.size V8 V) (fun z _ => ni - (intOf z).toNat)
                    case atStart => exact ⟨0, by omega, rfl, Below.refl _ _⟩
                    case round =>
                      obtain ⟨jj, hjj, rfl, hVV⟩ := hrel
                      by_cases cjj : jj = ni
                      · subst cjj
                        go_wp2_with fail
                        go_roundw
                        case rel => exact ⟨j + 1, by omega, by go_num, ab_trans HV8.out hVV⟩
                        case measure => simp [intOf]; omega
                      · obtain ⟨ki, hki2⟩ : ∃ ki, IL[jj]? = some ki := ⟨IL[jj]'(by omega), List.getElem?_eq_getElem (by omega)⟩
                        have hjji : (jj : Int) < (ni : Int) := by omega
                        obtain ⟨qz2, capz2, gz2, offz2, ez2, hz21, hz22, hpz2, hcz2⟩ := (HO8.out.keep hVV).er.at
                        rw [hni] at ez2 hpz2
                        injection ez2 with ez21 ez22 ez23
                        subst ez21
                        subst ez23
                        clear ez22
                        obtain ⟨rfl, hgz2⟩ := hpz2 (by omega)
                        obtain ⟨ka, kb, kc⟩ := ki
                        have w0 := hcz2 jj _ hki2 0 _ rfl
                        have w1 := hcz2 jj _ hki2 1 _ rfl
                        have w2 := hcz2 jj _ hki2 2 _ rfl
                        rw [Nat.add_zero, show E3k.k = 3 from rfl] at w0
                        rw [show E3k.k = 3 from rfl] at w1 w2
                        have hkm := List.mem_of_getElem? hki2
                        clear hcz2 hpz2 hki2 hz21 hz22
                        obtain ⟨hkk, hk0, hkl⟩ := HIL.out _ hkm
                        obtain ⟨i, hi0⟩ : ∃ i : Nat, ka = (i : Int) := ⟨ka.toNat, by dsimp only at hk0; omega⟩
                        obtain ⟨c, hc⟩ : ∃ c, T5.ba[i]? = some c := ⟨T5.ba[i]'(by dsimp only at hkl; omega), List.getElem?_eq_getElem (by dsimp only at hkl; omega)⟩
                        have HPA : Hid (pasB T5.ba (ka, kb, kc) = pl kb kc c.1 c.2) := pasB_at (k := (ka, kb, kc)) hi0 hc
                        obtain ⟨B9, hE9, hX9, hw9⟩ := blk1 wr #[.int .i64 ka, .int .i64 kb, .int .i64 kc] 47
                        have hVB := ab_trans HV8.out (ab_trans hVV hw9)
                        have hIB : FuI A B9 KK x T5 := HI6.out.keep hVB
                        have HCe := bacell_any (ka, kb, kc) B9 hIB.bq hkk
                        have HBa : Hid (∀ V, Below B9.heap.size B9 V → Calls Try.prog 21 #[bptr KK, .int .i64 ka] V fun e w' => e = .returned (Plc c.1 c.2) ∧ Below V.heap.size V w') := fun V hb => by
                          have := bbase_at i c V (hIB.bq.keep hb) hc
                          rw [← hi0] at this
                          exact this
                        have HTH : Hid (decide ((ka, kb, kc) ∈ T5.ks) = !pl kb kc c.1 c.2) := by rw [← HPA.out]; exact HTK.out _ hkm
                        have HX9 : Hid (∀ V, Below B9.heap.size B9 V → V.cell? ⟨wr.heap.size, 0, none⟩ = some (.int .i64 ka) ∧ V.cell? ⟨wr.heap.size, 1, none⟩ = some (.int .i64 kb) ∧ V.cell? ⟨wr.heap.size, 2, none⟩ = some (.int .i64 kc)) := fun V hb => ⟨(hX9.keep hb).at rfl, (hX9.keep hb).at rfl, (hX9.keep hb).at rfl⟩
                        have HVB : Hid (Below V8.heap.size V8 B9) := ab_trans hVV hw9
                        unfold kyV at HCe
                        dsimp only at HCe
                        obtain ⟨u0, u1, u2⟩ := HX9.out B9 (Below.refl _ _)
                        generalize decide ((ka, kb, kc) ∈ T5.ks) = th at *
                        generalize T5.cv (ka, kb, kc) = cc9 at *
                        clear hkm hX9 hi0 hc HPA hkk hk0 hkl hIB hVB hw9 hVV
                        go_upto_region 26 with (first
                          | (go_at_call 14; refine HCe.mono ?_; rintro e Wa ⟨rfl, ba⟩)
                          | (refine al_cell rfl rfl ?_; intro Wb eb hXb bb; clear eb)
                          | (refine st_cell rfl rfl hXb rfl rfl ?_; intro Wc hXc Cc))
                        have b9c : Below B9.heap.size B9 Wc := ab_chg (ab_trans ba bb) Cc ba.size
                        clear HCe hE9 ba bb Cc hXb hXc u0 u1 u2 w0 w1 w2
                        generalize wr.heap.size = gid at *
                        refine wp_region_held_drew (S := fun w' => Below Wc.heap.size Wc w') (by kernel_rfl) (ab_drew (Below.refl _ _)) (fun hHeld => ?_)
                        refine takeH (i := 0) (some 123) rfl rfl (by kernel_rfl) (by kernel_rfl) (by kernel_rfl) (fun _ _ _ h => h) (by rfl) (fun w hSw => by (try dsimp only at hSw); go_simp; try rfl) hHeld ?_
                        go_frame
                        refine takeH (i := 1) (some 124) rfl rfl (by kernel_rfl) (by kernel_rfl) (by kernel_rfl) (fun _ _ _ h => h) (by rfl) (fun w hSw => by (try dsimp only at hSw); (obtain ⟨q0, q1, q2⟩ := HX9.out _ (ab_trans b9c hSw); go_simp; try rfl)) hHeld ?_
                        go_frame
                        refine takeH (i := 2) (some 125) rfl rfl (by kernel_rfl) (by kernel_rfl) (by kernel_rfl) (fun _ _ _ h => h) (by rfl) (fun w hSw => by (try dsimp only at hSw); go_simp; try rfl) hHeld ?_
                        go_frame
                        refine takeH (i := 3) (some 126) rfl rfl (by kernel_rfl) (by kernel_rfl) (by kernel_rfl) (fun _ _ _ h => h) (by rfl) (fun w hSw => by (try dsimp only at hSw); go_simp; try rfl) hHeld ?_
                        go_frame
                        refine takeH (i := 4) (some 127) rfl rfl (by kernel_rfl) (by kernel_rfl) (by kernel_rfl) (fun _ _ _ h => h) (by rfl) (fun w hSw => by (try dsimp only at hSw); (obtain ⟨q0, q1, q2⟩ := HX9.out _ (ab_trans b9c hSw); go_simp; try rfl)) hHeld ?_
                        go_frame
                        refine wpAnyH_ready (rs := [5]) (by kernel_rfl) (by simp) (AllReadyH.cons rfl (fun K hK => ?_) AllReadyH.nil)
                        go_simp
                        refine (HBa.out _ (ab_trans b9c hHeld)).mono ?_
                        rintro e Vd ⟨rfl, bd⟩
                        show K _ _
                        refine hK.out _ _ (ab_trans hHeld bd) (fun hHeld => ?_)
                        clear hK K bd
                        refine wpAnyH_ready (rs := [6]) (by kernel_rfl) (by simp) (AllReadyH.cons rfl (fun K hK => ?_) AllReadyH.nil)
                        go_simp
                        refine (rpless_any _ _ _ _ _).mono ?_
                        rintro e Ve ⟨rfl, be⟩
                        show K _ _
                        refine hK.out _ _ (ab_trans hHeld be) (fun hHeld => ?_)
                        clear hK K be
                        refine takeH (i := 7) (some 18) rfl rfl (by kernel_rfl) (by kernel_rfl) (by kernel_rfl) (fun _ _ _ h => h) (by rfl) (fun w hSw => by (try dsimp only at hSw); go_simp; try rfl) hHeld ?_
                        go_frame
                        refine wpAnyH_done (by kernel_rfl) ?_ _
                        have hZ := ab_trans (ab_trans HVB.out b9c) hHeld
                        generalize pl kb kc c.1 c.2 = ah at *
                        clear hHeld HBa HX9 HVB b9c
                        obtain ⟨s1, s2⟩ : (th == ah) = false ∧ decide (th = ah) = false := by
                          rw [HTH.out]
                          cases ah <;> exact ⟨rfl, rfl⟩
                        clear HTH
                        go_wp2_with fail
                        go_roundw
                        case rel => exact ⟨jj + 1, by omega, by go_num, hZ⟩
                        case measure => simp [intOf]; omega
                  · have hk7 : (o.k != 1) = true := by simp [ok1]
                    clear ok1
                    go_wp2_with fail
                    go_roundw
                    case rel => exact ⟨j + 1, by omega, by go_num, hA7⟩
                    case measure => simp [intOf]; omega
            · subst h7
              rw [er7]
              have g1 := e70
              have g2 := e77
              have g3 := q70
              have g4 := q77
              go_loopw [79] (fun z V => ∃ j : Nat, j ≤ m ∧ z = .int .i64 (j : Int) ∧ Below V6.heap.size V6 V) (fun z _ => m - (intOf z).toNat)
              case atStart => exact ⟨0, by omega, rfl, Below.refl _ _⟩
              case round =>
                obtain ⟨j, hj, rfl, hV⟩ := hrel
                by_cases cj : j = m
                · subst cj
                  have HNx7 : ∀ V, Below wr.heap.size wr V → Calls Try.prog 12 #[bptr KK, .int .i64 sr] V fun e w' => e = .returned (.int .i64 (nxN T5 sr)) ∧ w' = V := fun V hb => banext_any sr V ((HI6.out.keep hV).bq.keep hb)
                  obtain ⟨b1, b2⟩ := HU5.out.nx rfl
                  obtain ⟨y0, y1, y2, y3, y4, y5, y6, y7, y8⟩ := HY.out _ (HX6.out.keep hV)
                  have hn1 : ¬ nxN T5 sr < f1 := by omega
                  have hn2 : ¬ l1 < nxN T5 sr := by omega
                  generalize nxN T5 sr = nx5 at *
                  go_wp2_with (go_at_call 12; refine (HNx7 _ (Below.refl _ _)).mono ?_; rintro e V9 ⟨rfl, rfl⟩)
                  clear y0 y1 y2 y3 y4 y5 y6 y7 y8
                  go_roundw
                  case rel => exact ⟨k + 1, T5, by omega, by go_num, HI6.out.keep hV⟩
                  case measure => simp [intOf]; omega
                · obtain ⟨o, ho⟩ : ∃ o, O[j]? = some o := ⟨O[j]'(by omega), List.getElem?_eq_getElem (by omega)⟩
                  have hji : (j : Int) < (m : Int) := by omega
                  obtain ⟨qz, capz, gz, offz, ez, hz1, hz2, hpz, hcz⟩ := (HS6.out.keep hV).at
                  rw [hm] at ez hpz hz1
                  injection ez with ez1 ez2 ez3
                  subst ez1
                  subst ez3
                  clear ez2
                  obtain ⟨rfl, hgz⟩ := hpz (by omega)
                  have hmm : m ≤ 9223372036854775807 := Nat.le_trans hz1 hz2
                  have w0 := hcz j o ho 0 _ rfl
                  have w1 := hcz j o ho 1 _ rfl
                  have w2 := hcz j o ho 2 _ rfl
                  have w3 := hcz j o ho 3 _ rfl
                  have w4 := hcz j o ho 4 _ rfl
                  rw [Nat.add_zero, show E5.k = 5 from rfl] at w0
                  rw [show E5.k = 5 from rfl] at w1 w2 w3 w4
                  have hom := List.mem_of_getElem? ho
                  clear hcz hpz ho hz1 hz2
                  obtain ⟨A7, hE7, hX7, hw7⟩ := blk1 wr #[.int .i64 o.s, .int .i64 o.k, .int .i64 o.t, .int .i64 o.y, .int .i64 o.v] 27
                  have v0 : A7.cell? ⟨wr.heap.size, 0, none⟩ = some (.int .i64 o.s) := hX7.at rfl
                  have v1 : A7.cell? ⟨wr.heap.size, 1, none⟩ = some (.int .i64 o.k) := hX7.at rfl
                  have v2 : A7.cell? ⟨wr.heap.size, 2, none⟩ = some (.int .i64 o.t) := hX7.at rfl
                  have v3 : A7.cell? ⟨wr.heap.size, 3, none⟩ = some (.int .i64 o.y) := hX7.at rfl
                  have v4 : A7.cell? ⟨wr.heap.size, 4, none⟩ = some (.int .i64 o.v) := hX7.at rfl
                  have hA7 := ab_trans hV hw7
                  by_cases ok1 : o.k = 1
                  · have hk7 : (o.k != 1) = false := by simp [ok1]
                    have HK2 : Hid (o.k ≠ 2) := by show _ ≠ _; omega
                    clear ok1
                    go_upto_region 21 with fail
                    have HX7b : Hid (Blk A7 wr.heap.size #[.int .i64 o.s, .int .i64 o.k, .int .i64 o.t, .int .i64 o.y, .int .i64 o.v] 27) := hX7
                    have HNx7 : Hid (∀ V, Below A7.heap.size A7 V → Calls Try.prog 12 #[bptr KK, .int .i64 sr] V fun e w' => e = .returned (.int .i64 (nxN T5 sr)) ∧ w' = V) := fun V hb => banext_any sr V ((HI6.out.keep hA7).bq.keep hb)
                    have HTK : Hid (decide (o.s < nxN T5 sr) = true → ∀ k' ∈ idL o.t o.y x.sh x.res, decide (k' ∈ T5.ks) = !pasB T5.ba k') := fun hlt => by
                      have := HU5.out.all (.inr rfl) o hom HK2.out (.inr (of_decide_eq_true hlt))
                      rw [← HU5.out.sh, ← HU5.out.res, HI6.out.sh, HI6.out.res] at this
                      exact this
                    generalize nxN T5 sr = nx5 at *
                    refine wp_region_held_drew (S := fun w' => Below A7.heap.size A7 w') (by kernel_rfl) (ab_drew (Below.refl _ _)) (fun hHeld => ?_)
                    refine takeH (i := 0) (some 95) rfl rfl (by kernel_rfl) (by kernel_rfl) (by kernel_rfl) (fun _ _ _ h => h) (by rfl) (fun w hSw => by (try dsimp only at hSw); go_simp; try rfl) hHeld ?_
                    go_frame
                    refine takeH (i := 1) (some 96) rfl rfl (by kernel_rfl) (by kernel_rfl) (by kernel_rfl) (fun _ _ _ h => h) (by rfl) (fun w hSw => by (try dsimp only at hSw); go_simp; try rfl) hHeld ?_
                    go_frame
                    refine takeH (i := 2) (some 97) rfl rfl (by kernel_rfl) (by kernel_rfl) (by kernel_rfl) (fun _ _ _ h => h) (by rfl) (fun w hSw => by (try dsimp only at hSw); go_simp; try rfl) hHeld ?_
                    go_frame
                    refine takeH (i := 3) (some 98) rfl rfl (by kernel_rfl) (by kernel_rfl) (by kernel_rfl) (fun _ _ _ h => h) (by rfl) (fun w hSw => by (try dsimp only at hSw); go_simp; try rfl) hHeld ?_
                    go_frame
                    refine takeH (i := 4) (some 99) rfl rfl (by kernel_rfl) (by kernel_rfl) (by kernel_rfl) (fun _ _ _ h => h) (by rfl) (fun w hSw => by (try dsimp only at hSw); (have q0 := (HX7b.out.keep hSw).at (i := 0) rfl; go_simp; try rfl)) hHeld ?_
                    go_frame
                    refine takeH (i := 5) (some 100) rfl rfl (by kernel_rfl) (by kernel_rfl) (by kernel_rfl) (fun _ _ _ h => h) (by rfl) (fun w hSw => by (try dsimp only at hSw); go_simp; try rfl) hHeld ?_
                    go_frame
                    refine takeH (i := 6) (some 101) rfl rfl (by kernel_rfl) (by kernel_rfl) (by kernel_rfl) (fun _ _ _ h => h) (by rfl) (fun w hSw => by (try dsimp only at hSw); go_simp; try rfl) hHeld ?_
                    go_frame
                    refine takeH (i := 7) (some 102) rfl rfl (by kernel_rfl) (by kernel_rfl) (by kernel_rfl) (fun _ _ _ h => h) (by rfl) (fun w hSw => by (try dsimp only at hSw); (obtain ⟨q0, q1, q2, q3, q4, q5, q6, q7, q8⟩ := HY.out _ (HX6.out.keep (ab_trans hA7 hSw)); go_simp; try rfl)) hHeld ?_
                    go_frame
                    refine wpAnyH_ready (rs := [8]) (by kernel_rfl) (by simp) (AllReadyH.cons rfl (fun K hK => ?_) AllReadyH.nil)
                    go_simp
                    refine (HNx7.out _ hHeld).mono ?_
                    rintro e V9 ⟨rfl, rfl⟩
                    show K _ _
                    refine hK.out _ _ hHeld (fun hHeld => ?_)
                    clear hK K
                    refine takeH (i := 9) (some 104) rfl rfl (by kernel_rfl) (by kernel_rfl) (by kernel_rfl) (fun _ _ _ h => h) (by rfl) (fun w hSw => by (try dsimp only at hSw); go_simp; try rfl) hHeld ?_
                    go_frame
                    refine takeH (i := 10) (some 105) rfl rfl (by kernel_rfl) (by kernel_rfl) (by kernel_rfl) (fun _ _ _ h => h) (by rfl) (fun w hSw => by (try dsimp only at hSw); go_simp; try rfl) hHeld ?_
                    go_frame
                    refine takeH (i := 11) (some 13) rfl rfl (by kernel_rfl) (by kernel_rfl) (by kernel_rfl) (fun _ _ _ h => h) (by rfl) (fun w hSw => by (try dsimp only at hSw); go_simp; try rfl) hHeld ?_
                    go_frame
                    refine wpAnyH_done (by kernel_rfl) ?_ _
                    generalize decide (o.s < nx5) = tk at *
                    clear HX7b HNx7
                    have HO7 : Hid (∀ V, Below A7.drew.heap.size A7.drew V → V.cell? ⟨wr.heap.size, 0, none⟩ = some (.int .i64 o.s) ∧ V.cell? ⟨wr.heap.size, 1, none⟩ = some (.int .i64 o.k) ∧ V.cell? ⟨wr.heap.size, 2, none⟩ = some (.int .i64 o.t) ∧ V.cell? ⟨wr.heap.size, 3, none⟩ = some (.int .i64 o.y) ∧ V.cell? ⟨wr.heap.size, 4, none⟩ = some (.int .i64 o.v)) := fun V hb => by
                      have hb2 : Below A7.heap.size A7 V := undrew hb
                      exact ⟨(hX7.keep hb2).at rfl, (hX7.keep hb2).at rfl, (hX7.keep hb2).at rfl, (hX7.keep hb2).at rfl, (hX7.keep hb2).at rfl⟩
                    have HA7 : Hid (Below V6.heap.size V6 A7.drew) := ab_drew hA7
                    have HFo : Hid (Fit5 o) := HOf o hom
                    clear hE7 w0 w1 w2 w3 w4 v0 v1 v2 v3 v4 hX7 hA7 hw7 hHeld hom
                    generalize wr.heap.size = gob at *
                    generalize A7.drew = V7 at *
                    obtain ⟨u0, u1, u2, u3, u4⟩ := HO7.out V7 (Below.refl _ _)
                    have hV7 := HI6.out.bel.trans (HA7.out.mono HI6.out.bel.size)
                    obtain ⟨y0, y1, y2, y3, y4⟩ := HX.out V7 hV7
                    have HId := rids_is o (.slice x.qr x.nr x.cr) x.res x.sh V7 (HRe.out V7 hV7).1 HFo.out (HRe.out V7 hV7).2 (by have := HI6.out.bq.ok.s1; have := HI6.out.sh; omega) (by have := HI6.out.bq.ok.r1; have := HI6.out.res; rw [← this]; omega)
                    have HIL : Hid (∀ k' ∈ idL o.t o.y x.sh x.res, KyOk k' ∧ 0 ≤ k'.1 ∧ k'.1 < (T5.ba.length : Int)) := fun k' hk' => ids_mem HI6.out.bq.ok HFo.out (by rw [HI6.out.sh, HI6.out.res]; exact hk')
                    have hIl : (idL o.t o.y x.sh x.res).length ≤ 3 := by rw [idL_len, ← HI6.out.res]; exact HI6.out.bq.ok.r1
                    generalize idL o.t o.y x.sh x.res = IL at *
                    unfold opV opA at HId
                    go_upto_region 23 with (go_at_call 13; refine HId.mono ?_; rintro e V8 ⟨v8, rfl, hO8, b8⟩; obtain ⟨q8, c8, e8⟩ := hO8.form; subst e8)
                    have HO8 : Hid (EO E3k 47 V8 V7.heap.size (.slice q8 IL.length c8) IL) := hO8
                    have HV8 : Hid (Below V6.heap.size V6 V8) := ab_trans HA7.out b8
                    clear hO8 HId u0 u1 u2 u3 u4 y0 y1 y2 y3 y4 b8 HA7 HO7
                    generalize hni : IL.length = ni at *
                    go_wp2_with fail
                    go_loopw [113] (fun z V => ∃ jj : Nat, jj ≤ ni ∧ z = .int .i64 (jj : Int) ∧ Below V8.heap.size V8 V) (fun z _ => ni - (intOf z).toNat)
                    case atStart => exact ⟨0, by omega, rfl, Below.refl _ _⟩
                    case round =>
                      obtain ⟨jj, hjj, rfl, hVV⟩ := hrel
                      by_cases cjj : jj = ni
                      · subst cjj
                        go_wp2_with fail
                        go_roundw
                        case rel => exact ⟨j + 1, by omega, by go_num, ab_trans HV8.out hVV⟩
                        case measure => simp [intOf]; omega
                      · obtain ⟨ki, hki2⟩ : ∃ ki, IL[jj]? = some ki := ⟨IL[jj]'(by omega), List.getElem?_eq_getElem (by omega)⟩
                        have hjji : (jj : Int) < (ni : Int) := by omega
                        obtain ⟨qz2, capz2, gz2, offz2, ez2, hz21, hz22, hpz2, hcz2⟩ := (HO8.out.keep hVV).er.at
                        rw [hni] at ez2 hpz2
                        injection ez2 with ez21 ez22 ez23
                        subst ez21
                        subst ez23
                        clear ez22
                        obtain ⟨rfl, hgz2⟩ := hpz2 (by omega)
                        obtain ⟨ka, kb, kc⟩ := ki
                        have w0 := hcz2 jj _ hki2 0 _ rfl
                        have w1 := hcz2 jj _ hki2 1 _ rfl
                        have w2 := hcz2 jj _ hki2 2 _ rfl
                        rw [Nat.add_zero, show E3k.k = 3 from rfl] at w0
                        rw [show E3k.k = 3 from rfl] at w1 w2
                        have hkm := List.mem_of_getElem? hki2
                        clear hcz2 hpz2 hki2 hz21 hz22
                        obtain ⟨hkk, hk0, hkl⟩ := HIL.out _ hkm
                        obtain ⟨i, hi0⟩ : ∃ i : Nat, ka = (i : Int) := ⟨ka.toNat, by dsimp only at hk0; omega⟩
                        obtain ⟨c, hc⟩ : ∃ c, T5.ba[i]? = some c := ⟨T5.ba[i]'(by dsimp only at hkl; omega), List.getElem?_eq_getElem (by dsimp only at hkl; omega)⟩
                        have HPA : Hid (pasB T5.ba (ka, kb, kc) = pl kb kc c.1 c.2) := pasB_at (k := (ka, kb, kc)) hi0 hc
                        obtain ⟨B9, hE9, hX9, hw9⟩ := blk1 wr #[.int .i64 ka, .int .i64 kb, .int .i64 kc] 47
                        have hVB := ab_trans HV8.out (ab_trans hVV hw9)
                        have hIB : FuI A B9 KK x T5 := HI6.out.keep hVB
                        have HCe := bacell_any (ka, kb, kc) B9 hIB.bq hkk
                        have HBa : Hid (∀ V, Below B9.heap.size B9 V → Calls Try.prog 21 #[bptr KK, .int .i64 ka] V fun e w' => e = .returned (Plc c.1 c.2) ∧ Below V.heap.size V w') := fun V hb => by
                          have := bbase_at i c V (hIB.bq.keep hb) hc
                          rw [← hi0] at this
                          exact this
                        have HTH : Hid (tk = true → decide ((ka, kb, kc) ∈ T5.ks) = !pl kb kc c.1 c.2) := fun ht => by rw [← HPA.out]; exact HTK.out ht _ hkm
                        have HX9 : Hid (∀ V, Below B9.heap.size B9 V → V.cell? ⟨wr.heap.size, 0, none⟩ = some (.int .i64 ka) ∧ V.cell? ⟨wr.heap.size, 1, none⟩ = some (.int .i64 kb) ∧ V.cell? ⟨wr.heap.size, 2, none⟩ = some (.int .i64 kc)) := fun V hb => ⟨(hX9.keep hb).at rfl, (hX9.keep hb).at rfl, (hX9.keep hb).at rfl⟩
                        have HVB : Hid (Below V8.heap.size V8 B9) := ab_trans hVV hw9
                        unfold kyV at HCe
                        dsimp only at HCe
                        obtain ⟨u0, u1, u2⟩ := HX9.out B9 (Below.refl _ _)
                        generalize decide ((ka, kb, kc) ∈ T5.ks) = th at *
                        generalize T5.cv (ka, kb, kc) = cc9 at *
                        clear hkm hX9 hi0 hc HPA hkk hk0 hkl hIB hVB hw9 hVV
                        go_upto_region 26 with (first
                          | (go_at_call 14; refine HCe.mono ?_; rintro e Wa ⟨rfl, ba⟩)
                          | (refine al_cell rfl rfl ?_; intro Wb eb hXb bb; clear eb)
                          | (refine st_cell rfl rfl hXb rfl rfl ?_; intro Wc hXc Cc))
                        have b9c : Below B9.heap.size B9 Wc := ab_chg (ab_trans ba bb) Cc ba.size
                        clear HCe hE9 ba bb Cc hXb hXc u0 u1 u2 w0 w1 w2
                        generalize wr.heap.size = gid at *
                        refine wp_region_held_drew (S := fun w' => Below Wc.heap.size Wc w') (by kernel_rfl) (ab_drew (Below.refl _ _)) (fun hHeld => ?_)
                        refine takeH (i := 0) (some 123) rfl rfl (by kernel_rfl) (by kernel_rfl) (by kernel_rfl) (fun _ _ _ h => h) (by rfl) (fun w hSw => by (try dsimp only at hSw); go_simp; try rfl) hHeld ?_
                        go_frame
                        refine takeH (i := 1) (some 124) rfl rfl (by kernel_rfl) (by kernel_rfl) (by kernel_rfl) (fun _ _ _ h => h) (by rfl) (fun w hSw => by (try dsimp only at hSw); (obtain ⟨q0, q1, q2⟩ := HX9.out _ (ab_trans b9c hSw); go_simp; try rfl)) hHeld ?_
                        go_frame
                        refine takeH (i := 2) (some 125) rfl rfl (by kernel_rfl) (by kernel_rfl) (by kernel_rfl) (fun _ _ _ h => h) (by rfl) (fun w hSw => by (try dsimp only at hSw); go_simp; try rfl) hHeld ?_
                        go_frame
                        refine takeH (i := 3) (some 126) rfl rfl (by kernel_rfl) (by kernel_rfl) (by kernel_rfl) (fun _ _ _ h => h) (by rfl) (fun w hSw => by (try dsimp only at hSw); go_simp; try rfl) hHeld ?_
                        go_frame
                        refine takeH (i := 4) (some 127) rfl rfl (by kernel_rfl) (by kernel_rfl) (by kernel_rfl) (fun _ _ _ h => h) (by rfl) (fun w hSw => by (try dsimp only at hSw); (obtain ⟨q0, q1, q2⟩ := HX9.out _ (ab_trans b9c hSw); go_simp; try rfl)) hHeld ?_
                        go_frame
                        refine wpAnyH_ready (rs := [5]) (by kernel_rfl) (by simp) (AllReadyH.cons rfl (fun K hK => ?_) AllReadyH.nil)
                        go_simp
                        refine (HBa.out _ (ab_trans b9c hHeld)).mono ?_
                        rintro e Vd ⟨rfl, bd⟩
                        show K _ _
                        refine hK.out _ _ (ab_trans hHeld bd) (fun hHeld => ?_)
                        clear hK K bd
                        refine wpAnyH_ready (rs := [6]) (by kernel_rfl) (by simp) (AllReadyH.cons rfl (fun K hK => ?_) AllReadyH.nil)
                        go_simp
                        refine (rpless_any _ _ _ _ _).mono ?_
                        rintro e Ve ⟨rfl, be⟩
                        show K _ _
                        refine hK.out _ _ (ab_trans hHeld be) (fun hHeld => ?_)
                        clear hK K be
                        refine takeH (i := 7) (some 18) rfl rfl (by kernel_rfl) (by kernel_rfl) (by kernel_rfl) (fun _ _ _ h => h) (by rfl) (fun w hSw => by (try dsimp only at hSw); go_simp; try rfl) hHeld ?_
                        go_frame
                        refine wpAnyH_done (by kernel_rfl) ?_ _
                        have hZ := ab_trans (ab_trans HVB.out b9c) hHeld
                        generalize pl kb kc c.1 c.2 = ah at *
                        clear hHeld HBa HX9 HVB b9c
                        cases tk
                        · go_wp2_with fail
                          go_roundw
                          case rel => exact ⟨jj + 1, by omega, by go_num, hZ⟩
                          case measure => simp [intOf]; omega
                        · obtain ⟨s1, s2⟩ : (th == ah) = false ∧ decide (th = ah) = false := by
                            rw [HTH.out rfl]
                            cases ah <;> exact ⟨rfl, rfl⟩
                          clear HTH
                          go_wp2_with fail
                          go_roundw
                          case rel => exact ⟨jj + 1, by omega, by go_num, hZ⟩
                          case measure => simp [intOf]; omega
                  · have hk7 : (o.k != 1) = true := by simp [ok1]
                    clear ok1
                    go_wp2_with fail
                    go_roundw
                    case rel => exact ⟨j + 1, by omega, by go_num, hA7⟩
                    case measure => simp [intOf]; omega
            · subst h2
              rw [er2]
              have g1 := e27
              have g2 := q27
              go_loopw [79] (fun z V => ∃ j : Nat, j ≤ m ∧ z = .int .i64 (j : Int) ∧ Below V6.heap.size V6 V) (fun z _ => m - (intOf z).toNat)
              case atStart => exact ⟨0, by omega, rfl, Below.refl _ _⟩
              case round =>
                obtain ⟨j, hj, rfl, hV⟩ := hrel
                by_cases cj : j = m
                · subst cj
                  go_wp2_with fail
                  go_roundw
                  case rel => exact ⟨k + 1, T5, by omega, by go_num, HI6.out.keep hV⟩
                  case measure => simp [intOf]; omega
                · obtain ⟨o, ho⟩ : ∃ o, O[j]? = some o := ⟨O[j]'(by omega), List.getElem?_eq_getElem (by omega)⟩
                  have hji : (j : Int) < (m : Int) := by omega
                  obtain ⟨qz, capz, gz, offz, ez, hz1, hz2, hpz, hcz⟩ := (HS6.out.keep hV).at
                  rw [hm] at ez hpz hz1
                  injection ez with ez1 ez2 ez3
                  subst ez1
                  subst ez3
                  clear ez2
                  obtain ⟨rfl, hgz⟩ := hpz (by omega)
                  have hmm : m ≤ 9223372036854775807 := Nat.le_trans hz1 hz2
                  have w0 := hcz j o ho 0 _ rfl
                  have w1 := hcz j o ho 1 _ rfl
                  have w2 := hcz j o ho 2 _ rfl
                  have w3 := hcz j o ho 3 _ rfl
                  have w4 := hcz j o ho 4 _ rfl
                  rw [Nat.add_zero, show E5.k = 5 from rfl] at w0
                  rw [show E5.k = 5 from rfl] at w1 w2 w3 w4
                  have hom := List.mem_of_getElem? ho
                  clear hcz hpz ho hz1 hz2
                  obtain ⟨A7, hE7, hX7, hw7⟩ := blk1 wr #[.int .i64 o.s, .int .i64 o.k, .int .i64 o.t, .int .i64 o.y, .int .i64 o.v] 27
                  have v0 : A7.cell? ⟨wr.heap.size, 0, none⟩ = some (.int .i64 o.s) := hX7.at rfl
                  have v1 : A7.cell? ⟨wr.heap.size, 1, none⟩ = some (.int .i64 o.k) := hX7.at rfl
                  have v2 : A7.cell? ⟨wr.heap.size, 2, none⟩ = some (.int .i64 o.t) := hX7.at rfl
                  have v3 : A7.cell? ⟨wr.heap.size, 3, none⟩ = some (.int .i64 o.y) := hX7.at rfl
                  have v4 : A7.cell? ⟨wr.heap.size, 4, none⟩ = some (.int .i64 o.v) := hX7.at rfl
                  have hA7 := ab_trans hV hw7
                  by_cases ok1 : o.k = 1
                  · have hk7 : (o.k != 1) = false := by simp [ok1]
                    have HK2 : Hid (o.k ≠ 2) := by show _ ≠ _; omega
                    clear ok1
                    go_wp2_with fail
                    go_roundw
                    case rel => exact ⟨j + 1, by omega, by go_num, hA7⟩
                    case measure => simp [intOf]; omega
                  · have hk7 : (o.k != 1) = true := by simp [ok1]
                    clear ok1
                    go_wp2_with fail
                    go_roundw
                    case rel => exact ⟨j + 1, by omega, by go_num, hA7⟩
                    case measure => simp [intOf]; omega
            · subst h11
              rw [er11]
              have g1 := eb0
              have g2 := eb7
              have g3 := qb7
              go_loopw [79] (fun z V => ∃ j : Nat, j ≤ m ∧ z = .int .i64 (j : Int) ∧ Below V6.heap.size V6 V) (fun z _ => m - (intOf z).toNat)
              case atStart => exact ⟨0, by omega, rfl, Below.refl _ _⟩
              case round =>
                obtain ⟨j, hj, rfl, hV⟩ := hrel
                by_cases cj : j = m
                · subst cj
                  go_wp2_with fail
                  go_roundw
                  case rel => exact ⟨k + 1, T5, by omega, by go_num, HI6.out.keep hV⟩
                  case measure => simp [intOf]; omega
                · obtain ⟨o, ho⟩ : ∃ o, O[j]? = some o := ⟨O[j]'(by omega), List.getElem?_eq_getElem (by omega)⟩
                  have hji : (j : Int) < (m : Int) := by omega
                  obtain ⟨qz, capz, gz, offz, ez, hz1, hz2, hpz, hcz⟩ := (HS6.out.keep hV).at
                  rw [hm] at ez hpz hz1
                  injection ez with ez1 ez2 ez3
                  subst ez1
                  subst ez3
                  clear ez2
                  obtain ⟨rfl, hgz⟩ := hpz (by omega)
                  have hmm : m ≤ 9223372036854775807 := Nat.le_trans hz1 hz2
                  have w0 := hcz j o ho 0 _ rfl
                  have w1 := hcz j o ho 1 _ rfl
                  have w2 := hcz j o ho 2 _ rfl
                  have w3 := hcz j o ho 3 _ rfl
                  have w4 := hcz j o ho 4 _ rfl
                  rw [Nat.add_zero, show E5.k = 5 from rfl] at w0
                  rw [show E5.k = 5 from rfl] at w1 w2 w3 w4
                  have hom := List.mem_of_getElem? ho
                  clear hcz hpz ho hz1 hz2
                  obtain ⟨A7, hE7, hX7, hw7⟩ := blk1 wr #[.int .i64 o.s, .int .i64 o.k, .int .i64 o.t, .int .i64 o.y, .int .i64 o.v] 27
                  have v0 : A7.cell? ⟨wr.heap.size, 0, none⟩ = some (.int .i64 o.s) := hX7.at rfl
                  have v1 : A7.cell? ⟨wr.heap.size, 1, none⟩ = some (.int .i64 o.k) := hX7.at rfl
                  have v2 : A7.cell? ⟨wr.heap.size, 2, none⟩ = some (.int .i64 o.t) := hX7.at rfl
                  have v3 : A7.cell? ⟨wr.heap.size, 3, none⟩ = some (.int .i64 o.y) := hX7.at rfl
                  have v4 : A7.cell? ⟨wr.heap.size, 4, none⟩ = some (.int .i64 o.v) := hX7.at rfl
                  have hA7 := ab_trans hV hw7
                  by_cases ok1 : o.k = 1
                  · have hk7 : (o.k != 1) = false := by simp [ok1]
                    have HK2 : Hid (o.k ≠ 2) := by show _ ≠ _; omega
                    clear ok1
                    go_wp2_with fail
                    go_roundw
                    case rel => exact ⟨j + 1, by omega, by go_num, hA7⟩
                    case measure => simp [intOf]; omega
                  · have hk7 : (o.k != 1) = true := by simp [ok1]
                    clear ok1
                    go_wp2_with fail
                    go_roundw
                    case rel => exact ⟨j + 1, by omega, by go_num, hA7⟩
                    case measure => simp [intOf]; omega
          · have hk1 : (kd != 0) = true := by simp [hkd]
            clear hkd
            cases hN : hasN sr T.ba.length
            · have HRa := baraise_no sr p A2 hI2.bq hN
              clear hN
              go_wp2_with (go_at_call 18; refine HRa.mono ?_; rintro e W5 ⟨rfl, b5⟩)
              have hI5 := hI2.keep b5
              go_roundw
              case rel => exact ⟨k + 1, T, by omega, by go_num, hI5⟩
              case measure => simp [intOf]; omega
            · obtain ⟨i, hi0, hi⟩ := hasN_no hN
              have HRa := baraise_ok i p A2 hI2.bq hi hf.p
              rw [← hi0] at HRa
              have HI2 : Hid (FuI A A2 KK x T) := hI2
              clear hN hi0 hI2
              go_wp2_with (go_at_call 18; refine HRa.mono ?_; rintro e W5 ⟨rfl, hB5, hF5⟩)
              have hI5 : FuI A W5 KK x (drpB (lifB T i p)) := ⟨hB5, HI2.out.res, HI2.out.sh, HI2.out.mo, np_drp _, HI2.out.bel.trans (hF5.below HI2.out.bel.size hKA)⟩
              go_roundw
              case rel => exact ⟨k + 1, _, by omega, by go_num, hI5⟩
              case measure => simp [intOf]; omega
  · go_wp2_with fail
    go_ret
    exact ⟨rfl, ab_trans hw (ab_trans a1 a2)⟩
theorem walk {W : World} (x : CeD) (h : CeZ W x) : Calls Try.prog 4 #[.agg (ceA x)] W fun e w' => e = .returned (.bool true) ∧ Below W.heap.size W w' := fu_walk x W h

theorem own : ownKnob Try.prog.godebug = none := by kernel_rfl
theorem laidOut : laidOutB Try.prog = true := by kernel_rfl

set_option maxRecDepth 100000 in
theorem lifted (os : Os) (started : os.Started) (H : Type) (enc : TypeId × Value → H) :
    ReturnsInHanded {} Try.checked os 4 .any (Rows.basinFullSpec.pre6 enc Try.prog Try.f4 Rows.basinFullRow.domain false) (Rows.basinFullSpec.post enc Try.prog Try.f4 false true false false) := by
  refine returnsInHanded_of_change_sized (C := Try.checked) own started (by kernel_rfl) Try.func4
    (ChangeSpec.witness6 (enc := enc) (C := Try.checked) false ⟨#[], #[.agg #[.int .i64 0, .slice none 0 0, .int .i64 0, .int .i64 0, .slice none 0 0]], []⟩ 8 (by kernel_rfl) (by kernel_rfl) (by kernel_rfl) (by kernel_rfl)) ?_
  intro W base args ds gs before hval0 hW hcnd hsz _
  have hval : ∀ (j : Nat) t v, Try.f4.params[j]? = some t → args[j]? = some v → Value.okWide Try.prog W .any base t v := hval0
  have hW' := hW
  obtain ⟨p, q, hA0, hV, rfl, hfz, hnd⟩ := hW
  have hA : DataW.TrodAll enc Try.prog W 0 (fun _ => true) true Try.f4.params.toList args.toList ds p := hA0
  rw [Try.params4] at hA hval
  obtain ⟨v0, vs0, d0, ds0, p0, q0, hargs, rfl, rfl, h0, r0⟩ := trodAll_cons hA
  obtain ⟨rfl, rfl, rfl⟩ := trodAll_nil r0
  obtain rfl : args = #[v0] := by cases args; simp_all
  obtain ⟨rfl, rfl⟩ := trodVars_none hV
  have k0 := h0
  have lt0 : ∀ x ∈ p0, x.block < W.heap.size := by obtain ⟨m, hm⟩ := k0; exact DataW.trod_lt m _ _ _ hm
  obtain ⟨x0_, rfl, Z0_⟩ := open_case16 (hval 0 62 v0 rfl rfl) h0 (fun n hn => by simpa using List.all_eq_true.1 hsz n (DataW.weights_mem_each (j := 0) (t := 62) (by kernel_rfl) rfl n hn))
  clear hA0 hval0
  refine (walk x0_ Z0_).mono fun e W' ⟨he, bel⟩ => ?_
  subst he
  exact ⟨_, rfl, _, _, _, [], _, [], hW', trodAll_mk1 (shut_bool Try.underlying4 _), (trodAll_cons_mk (Below.trod laidOut (by kernel_rfl) (of_decide_eq_true (by kernel_rfl)) k0 bel lt0) trodAll_mk0), rfl, bel.frame _, fun h => by cases h⟩

theorem over : Rows.basinFullRow.holds Try.pinned (OpenSpec.ofChange Rows.basinFullSpec) :=
  OpenClaim.holds_of_wide 4 Try.f4 rfl rfl rfl rfl rfl rfl rfl ⟨rfl, rfl, rfl, rfl, rfl⟩ rfl rfl rfl rfl rfl (by kernel_rfl) Try.func4 (by kernel_rfl)
    (of_decide_eq_true (by kernel_rfl)) (by unfold Func.isWrapper; first | (rw [if_pos (by decide +kernel)]; kernel_rfl) | (rw [if_neg (by decide +kernel)]; exact ⟨rfl, rfl⟩))
    (fun os started H enc _ => lifted os started H enc)

theorem proved : Rows.BasinFullSaid := over
end Go.Proofs.Ytoeilckeebojmaa.basinFull
namespace Go.Proofs.Ytoeilckeebojmaa
theorem basinFull_holds : Rows.BasinFullSaid := basinFull.proved
#print axioms basinFull_holds
end Go.Proofs.Ytoeilckeebojmaa
