/-
  A new round of a node (written out by wip/tools/nbegin11.py).
-/
import Derived.Test.YtodmhohccclhmaaPk31
namespace Go.Proofs.Ytodmhohccclhmaa
open Go.RowKit
set_option linter.unusedVariables false
set_option maxRecDepth 100000

theorem asks_len (r j : Nat) (b : Bt) : (asks11 r j b).length = j := by unfold asks11; simp
theorem asks_succ (r j : Nat) (b : Bt) : asks11 r (j + 1) b = asks11 r j b ++ [⟨0, r, j, b, zB, zB, zB, [], []⟩] := by unfold asks11; rw [List.range_succ, List.map_append]; rfl
theorem Rn.hi {G : Nat → Prop} {W : World} {B b mp ma : Nat} {R : Rd} (h : Rn G W B b mp ma R) : ∀ k, bks b mp ma k → k < W.heap.size := by
  rintro k (e | e | e) <;> subst e
  · exact h.lt
  · exact h.pm.lt
  · exact h.am.lt
set_option maxHeartbeats 4000000 in
theorem nbegin_any (W0 : World) (wb : Nat) (P : NwP) (S : Net) (acc : Nat → Nat → Prop) (who : Nat) (c : CgD) (w : World) (h : Nw W0 w W0.heap.size wb P S) (hI : Inv acc S) (hwho : who < 3) (hc : gdG (cgOf c) = true) (ho : Is W0 c.vo c.o) (hn : Is W0 c.vn c.n) (hsz : S.lt.length ≤ 3000) (hrd : S.rd.length ≤ 30) :
    Calls Try.prog 30 #[nptr wb, .int .i64 (who : Int), cgV c.k c.vo c.vn] w fun e w' => e = .returned (.bool true) ∧ ∃ P' S' acc' b, Nw W0 w' W0.heap.size wb P' S' ∧ Inv acc' S' ∧ S'.n = S.n ∧ S'.rd = S.rd ++ [begR S.n b (cgOf c)] ∧ S'.lt.length ≤ S.lt.length + 5 ∧ Below W0.heap.size w w' := by
  obtain ⟨k, vo, lo, vn, ln⟩ := c
  dsimp only at ho hn
  obtain ⟨q1, c1, e⟩ := ho.form
  obtain ⟨q2, c2, e'⟩ := hn.form
  subst e
  subst e'
  obtain ⟨n1, hn1⟩ : ∃ n, lo.length = n := ⟨_, rfl⟩
  obtain ⟨n2, hn2⟩ : ∃ n, ln.length = n := ⟨_, rfl⟩
  rw [hn1] at ho ⊢
  rw [hn2] at hn ⊢
  go_enter Try.func30, Try.ntmps30
  go_upto_region 1 with fail
  obtain ⟨A, hAe, hX, hw⟩ := blk1 w (cgC k (.slice q1 n1 c1) (.slice q2 n2 c2)) 26
  rw [hAe]
  clear hAe
  have hA := h.keep hw
  obtain ⟨xl, hxl, l0, l1, l2⟩ := hA.lastC hwho
  have hbv := Below.refl A.heap.size A
  have hwi : (who : Int) < 3 := by omega
  go_upto_region 2 with fail
  obtain ⟨V1, hE1, hT, bV1⟩ := blk1 A (bC xl) 23
  rw [show A.alloc (.cells _ 23) = V1 from hE1]
  clear hE1 l0 l1 l2 hbv
  have hw1 := ab_trans hw bV1
  have hX1 := hX.keep bV1
  have zA : w.heap.size < A.heap.size := hX.lt
  have hN1 := h.keep hw1
  obtain ⟨qd, cd, ed⟩ := hN1.roundsF
  obtain ⟨-, d1, -, -, -, -⟩ := hN1.cells
  rw [ed] at d1
  have hbv := Below.refl V1.heap.size V1
  obtain ⟨hl1, hl2, hl3⟩ := hI.las who xl hxl
  go_wp2_with fail
  clear d1 hbv
  go_loopw [26] (fun iv wr => ∃ (j : Nat) (tp : Bt), j ≤ S.rd.length ∧ iv = .int .i64 (j : Int) ∧ Blk wr A.heap.size (bC tp) 23 ∧ Blk wr w.heap.size (cgC k (.slice q1 n1 c1) (.slice q2 n2 c2)) 26 ∧ leK xl tp ∧ tp.n ≤ (S.rd.length : Int) ∧ 0 ≤ tp.n ∧ Below w.heap.size w wr ∧ A.heap.size < wr.heap.size) (fun iv _ => S.rd.length - (intOf iv).toNat)
  case atStart => exact ⟨0, xl, by omega, rfl, hT, hX1, leK_refl _, hl1, hl2, hw1, hT.lt⟩
  case round =>
    obtain ⟨j, tp, hj, rfl, hTr, hXr, hle, htn, ht0, hbr, hzr⟩ := hrel
    clear hT hX1 hw1 hN1
    have hNr := h.keep hbr
    obtain ⟨t0, t1, t2⟩ := cells3 hTr
    by_cases cj : j = S.rd.length
    · have i9 : ¬ (j : Int) < (S.rd.length : Int) := by omega
      have i10 : ¬ j < S.rd.length := by omega
      have hbv := Below.refl wr.heap.size wr
      clear cj
      go_wp2_with fail
      refine (bnext_any tp (who : Int) 0 wr).mono ?_
      rintro e W2 ⟨rfl, b2⟩
      have hnx : nxB tp (who : Int) 0 = ⟨tp.n + 1, (who : Int), 0⟩ := by unfold nxB; rw [IntWalk.wrap64_in _ ⟨by omega, by omega⟩]
      rw [hnx]
      obtain ⟨b, hbd⟩ : ∃ b : Bt, b = ⟨tp.n + 1, (who : Int), 0⟩ := ⟨_, rfl⟩
      rw [← hbd]
      obtain ⟨hok, hI'⟩ := inv_begin hI hwho hxl hle htn ht0 hc
      rw [← hbd] at hok hI'
      clear hnx hbd i9 i10 t0 t1 t2 hbv
      go_upto_region 10 with fail
      obtain ⟨V2, hE2, hBb, b22⟩ := blk1 W2 (bC b) 23
      rw [show W2.alloc (.cells _ 23) = V2 from hE2]
      clear hE2
      have hb2 := ab_trans b2 b22
      have hwV2 := ab_trans hbr hb2
      have hN2 := h.keep hwV2
      have hX2 := hXr.keep hb2
      have h0V : W0.heap.size ≤ V2.heap.size := hN2.lB
      obtain ⟨d0, -, -, -, -, -⟩ := hN2.cells
      have D2 : ∀ U, Below V2.heap.size V2 U → U.cell? ⟨wb, 0, none⟩ = some (.slice (some ⟨P.gr, 0, none⟩) S.n S.n) ∧ Blk U W2.heap.size (bC b) 23 ∧ Blk U w.heap.size (cgC k (.slice q1 n1 c1) (.slice q2 n2 c2)) 26 := fun U hb => ⟨d0 U hb, hBb.keep hb, hX2.keep hb⟩
      refine wp_region_held_drew (S := fun w' => Below V2.heap.size V2 w') (by kernel_rfl) (ab_drew (Below.refl _ _)) (fun hHeld => ?_)
      refine takeH (i := 0) (some 48) rfl rfl (by kernel_rfl) (by kernel_rfl) (by kernel_rfl) (fun _ _ _ h => h) (by rfl) (fun w hSw => by (try dsimp only at hSw); go_simp; try rfl) hHeld ?_
      go_frame
      refine takeH (i := 1) (some 49) rfl rfl (by kernel_rfl) (by kernel_rfl) (by kernel_rfl) (fun _ _ _ h => h) (by rfl) (fun w hSw => by (try dsimp only at hSw); go_simp; try rfl) hHeld ?_
      go_frame
      refine takeH (i := 2) (some 50) rfl rfl (by kernel_rfl) (by kernel_rfl) (by kernel_rfl) (fun _ _ _ h => h) (by rfl) (fun w hSw => by (try dsimp only at hSw); go_simp; try rfl) hHeld ?_
      go_frame
      refine takeH (i := 3) (some 51) rfl rfl (by kernel_rfl) (by kernel_rfl) (by kernel_rfl) (fun _ _ _ h => h) (by rfl) (fun w hSw => by (try dsimp only at hSw); have g := (D2 _ hSw).1; go_simp; try rfl) hHeld ?_
      go_frame
      refine takeH (i := 4) (some 52) rfl rfl (by kernel_rfl) (by kernel_rfl) (by kernel_rfl) (fun _ _ _ h => h) (by rfl) (fun w hSw => by (try dsimp only at hSw); go_simp; try rfl) hHeld ?_
      go_frame
      refine takeH (i := 5) (some 53) rfl rfl (by kernel_rfl) (by kernel_rfl) (by kernel_rfl) (fun _ _ _ h => h) (by rfl) (fun w hSw => by (try dsimp only at hSw); have hh := (D2 _ hSw).2.1; have y0 := hh.at (i := 0) rfl; have y1 := hh.at (i := 1) rfl; have y2 := hh.at (i := 2) rfl; go_simp; try rfl) hHeld ?_
      go_frame
      refine takeH (i := 6) (some 54) rfl rfl (by kernel_rfl) (by kernel_rfl) (by kernel_rfl) (fun _ _ _ h => h) (by rfl) (fun w hSw => by (try dsimp only at hSw); have hh := (D2 _ hSw).2.2; have y0 := hh.at (i := 0) rfl; have y1 := hh.at (i := 1) rfl; have y2 := hh.at (i := 2) rfl; go_simp; try rfl) hHeld ?_
      go_frame
      refine wpAnyH_ready (rs := [7]) (by kernel_rfl) (by simp) (AllReadyH.cons rfl (fun K hK => ?_) AllReadyH.nil)
      go_simp
      have hdr : Below V2.heap.size V2 V2.drew := ab_drew (Below.refl _ _)
      generalize V2.drew = V0 at *
      refine (begin_yes (G := fun _ => False) S.n b ⟨k, lo, ln⟩ (.slice q1 n1 c1) (.slice q2 n2 c2) V0 hok ((ho.keep hN2.old).keep hdr) ((hn.keep hN2.old).keep hdr) (fun k h => h.elim)).mono ?_
      rintro e W3 ⟨nb, mp, ma, rfl, hR3, b3'⟩
      show K _ _
      have hb3 := ab_trans hdr b3'
      refine hK.out _ _ hb3 (fun hHeld => ?_)
      clear hK K
      refine takeH (i := 8) (some 47) rfl rfl (by kernel_rfl) (by kernel_rfl) (by kernel_rfl) (fun _ _ _ h => h) (by rfl) (fun w hSw => by (try dsimp only at hSw); go_simp; try rfl) hHeld ?_
      go_frame
      refine takeH (i := 9) (some 56) rfl rfl (by kernel_rfl) (by kernel_rfl) (by kernel_rfl) (fun _ _ _ h => h) (by rfl) (fun w hSw => by (try dsimp only at hSw); go_simp; try rfl) hHeld ?_
      go_frame
      refine takeH (i := 10) (some 57) rfl rfl (by kernel_rfl) (by kernel_rfl) (by kernel_rfl) (fun _ _ _ h => h) (by rfl) (fun w hSw => by (try dsimp only at hSw); go_simp; try rfl) hHeld ?_
      go_frame
      refine takeH (i := 11) (some 12) rfl rfl (by kernel_rfl) (by kernel_rfl) (by kernel_rfl) (fun _ _ _ h => h) (by rfl) (fun w hSw => by (try dsimp only at hSw); go_simp; try rfl) hHeld ?_
      go_frame
      refine takeH (i := 12) (some 13) rfl rfl (by kernel_rfl) (by kernel_rfl) (by kernel_rfl) (fun _ _ _ h => h) (by rfl) (fun w hSw => by (try dsimp only at hSw); go_simp; try rfl) hHeld ?_
      go_frame
      refine wpAnyH_done (by kernel_rfl) ?_ _
      have E1 := neq00
      go_upto_region 13 with fail
      have hN3 := hN2.keep hb3
      have hBb3 := hBb.keep hb3
      have hX3 := hX2.keep hb3
      have zV0 := hdr.size
      obtain ⟨x, y, z, ela, hBw⟩ := hN3.blk
      obtain ⟨x', y', z', es, hBw', hcw, hth⟩ := last_stored (who := who) b hwho hBw.drew
      have hbw : W2.heap.size ≠ wb := fun e => by have := (e ▸ hBb3.kindR).uniq hBw.kindR; cases this
      have hxw : w.heap.size ≠ wb := fun e => by have := (e ▸ hX3.kindR).uniq hBw.kindR; cases this
      have D3 : ∀ U, Frm (fun j => j = wb) W3 U → Blk U W2.heap.size (bC b) 23 ∧ Blk U w.heap.size (cgC k (.slice q1 n1 c1) (.slice q2 n2 c2)) 26 := fun U hF => ⟨hBb3.frm hF hbw, hX3.frm hF hxw⟩
      refine wp_region_held_drew (S := fun w' => Frm (fun j => j = wb) W3 w') (by kernel_rfl) (frm_below (ab_drew (Below.refl _ _))) (fun hHeld => ?_)
      refine takeH (i := 0) (some 64) rfl rfl (by kernel_rfl) (by kernel_rfl) (by kernel_rfl) (fun _ _ _ h => h) (by rfl) (fun w hSw => by (try dsimp only at hSw); go_simp; try rfl) hHeld ?_
      go_frame
      refine takeH (i := 1) (some 65) rfl rfl (by kernel_rfl) (by kernel_rfl) (by kernel_rfl) (fun _ _ _ h => h) (by rfl) (fun w hSw => by (try dsimp only at hSw); go_simp; try rfl) hHeld ?_
      go_frame
      refine takeH (i := 2) (some 66) rfl rfl (by kernel_rfl) (by kernel_rfl) (by kernel_rfl) (fun _ _ _ h => h) (by rfl) (fun w hSw => by (try dsimp only at hSw); have hh := (D3 _ hSw).1; have y0 := hh.at (i := 0) rfl; have y1 := hh.at (i := 1) rfl; have y2 := hh.at (i := 2) rfl; go_simp; try rfl) hHeld ?_
      go_frame
      refine takeH (i := 3) (some 67) rfl rfl (by kernel_rfl) (by kernel_rfl) (by kernel_rfl) (fun _ _ _ h => h) (by rfl) (fun w hSw => by (try dsimp only at hSw); go_simp; try rfl) hHeld ?_
      go_frame
      refine takeH (i := 4) (some 68) rfl rfl (by kernel_rfl) (by kernel_rfl) (by kernel_rfl) (fun _ _ _ h => h) (by rfl) (fun w hSw => by (try dsimp only at hSw); go_simp; try rfl) hHeld ?_
      go_frame
      refine takeH (i := 5) (some 69) rfl rfl (by kernel_rfl) (by kernel_rfl) (by kernel_rfl) (fun _ _ _ h => h) (by rfl) (fun w hSw => by (try dsimp only at hSw); go_simp; try rfl) hHeld ?_
      go_frame
      refine wpAnyH_ready (rs := [6]) (by kernel_rfl) (by simp) (AllReadyH.cons rfl (fun K hK => ?_) AllReadyH.nil)
      rw [if_pos (by rfl)]
      refine stM none rfl 23 _ _ rfl wb (3 + who * 3) (bC b) rfl rfl hth (info_bt b) (bt_one b) ?_
      have C4 : Chg wb W3 _ := (show Chg wb W3 W3.drew from ⟨rfl, rfl, rfl, rfl, fun _ _ => rfl⟩).trans hcw
      have hN4 := hN3.turnW C4 hBw'
      have hF4 : Frm (fun j => j = wb) W3 _ := frm_chg C4 rfl
      refine hK.out _ _ hF4 (fun hHeld => ?_)
      clear hK K
      generalize W3.drew.setCells wb (3 + who * 3) _ = W4 at *
      simp only [Act.put]
      refine wpAnyH_done (by kernel_rfl) ?_ _
      obtain ⟨hBb4, hX4⟩ := D3 _ hF4
      have hR4 : Rn (fun _ => False) W4 W0.heap.size nb mp ma (begR S.n b ⟨k, lo, ln⟩) := (hR3.frm hF4 (NoI.g (fun j hj hk => by subst hj; have := hk.uniq hBw.kindR; cases this)) (fun e => by have := (e ▸ hR3.kind).uniq hBw.kindR; cases this) (fun e => hR3.pm.noKind 43 (e ▸ hBw.kindR)) (fun e => hR3.am.noKind 43 (e ▸ hBw.kindR))).less (by omega)
      have hnew : ∀ j, bks nb mp ma j → V2.heap.size ≤ j := fun j hj => by have := hR3.lo j hj; omega
      have hbw4 : Below W0.heap.size w W4 := ((hwV2.mono h.lB).trans (hb3.mono h0V)).trans (C4.below h.gew)
      have eS4 : ({ S with la := [x', y', z'] } : Net) = { S with la := S.la.set who b } := by rw [ela, es]
      rw [eS4] at hN4
      obtain ⟨S4, hS4⟩ : ∃ S4 : Net, S4 = { S with la := S.la.set who b } := ⟨_, rfl⟩
      rw [← hS4] at hN4
      have hS4r : S4.rd = S.rd := by rw [hS4]
      have hS4n : S4.n = S.n := by rw [hS4]
      have hS4l : S4.lt = S.lt := by rw [hS4]
      clear D3 hBw hBw' hcw hth hHeld C4 hR3 hBb3 hX3 hN3 eS4 es ela D2 hF4 hX2 hBb hN2
      obtain ⟨-, w1, w2, -, -, -⟩ := hN4.cells
      obtain ⟨qd4, cd4, ed4⟩ := hN4.roundsF
      have ech : ∃ q c, P.cv = .slice q S4.rd.length c := by
        rcases hN4.chs.2 with ⟨h1, h2⟩ | ⟨g, cap, cur, h1, _⟩
        · rw [h2]; exact ⟨none, 0, h1⟩
        · exact ⟨_, _, h1⟩
      obtain ⟨qc4, cc4, ec4⟩ := ech
      rw [hS4r] at ed4 ec4
      have kx4 := hN4.kinds
      have D4 : ∀ U, Frm (rwX P) W4 U → U.cell? ⟨wb, 1, none⟩ = some (.slice qd4 S.rd.length cd4) ∧ U.cell? ⟨wb, 2, none⟩ = some (.slice qc4 S.rd.length cc4) ∧ Blk U w.heap.size (cgC k (.slice q1 n1 c1) (.slice q2 n2 c2)) 26 ∧ Blk U W2.heap.size (bC b) 23 := fun U hF => by
        obtain ⟨a1, a2, a3, -, hBw⟩ := hN4.blk
        have hB := hBw.frm hF (fun e => by
          rcases e with e | e
          · have := (kx4.2.2.1 _ e).uniq hBw.kindR; cases this
          · have := (kx4.2.2.2.1 _ e).uniq hBw.kindR; cases this)
        refine ⟨by rw [← ed4]; exact hB.at (i := 1) rfl, by rw [← ec4]; exact hB.at (i := 2) rfl, hX4.frm hF (fun e => ?_), hBb4.frm hF (fun e => ?_)⟩
        · rcases e with e | e
          · have := (kx4.2.2.1 _ e).uniq hX4.kindR; cases this
          · have := (h.chs.lt _ e).2; omega
        · rcases e with e | e
          · have := (kx4.2.2.1 _ e).uniq hBb4.kindR; cases this
          · have := (kx4.2.2.2.1 _ e).uniq hBb4.kindR; cases this
      have hrow := hN4.rds
      have hchw := hN4.chs
      rw [hS4r, ed4] at hrow
      rw [hS4r, ec4] at hchw
      have lB4 := hN4.lB
      obtain ⟨S5, hS5⟩ : ∃ S5 : Net, S5 = { S4 with rd := S4.rd ++ [begR S.n b ⟨k, lo, ln⟩] } := ⟨_, rfl⟩
      have D5 : ∀ U, Frm (rwX P) W4 U → ∀ v, (∃ x, U.cell? ⟨wb, 1, none⟩ = some x) ∧ (∃ x, (U.setCell ⟨wb, 1, none⟩ v).cell? ⟨wb, 2, none⟩ = some x) ∧ U.frozen? ⟨wb, 1, none⟩ = false ∧ (U.setCell ⟨wb, 1, none⟩ v).frozen? ⟨wb, 2, none⟩ = false := fun U hF v => by
        obtain ⟨a1, a2, a3, -, hBw⟩ := hN4.blk
        have hB := hBw.frm hF (fun e => by
          rcases e with e | e
          · have := (kx4.2.2.1 _ e).uniq hBw.kindR; cases this
          · have := (kx4.2.2.2.1 _ e).uniq hBw.kindR; cases this)
        exact ⟨⟨_, hB.at (i := 1) rfl⟩, ⟨_, (hB.set 1 v).at (i := 2) rfl⟩, hB.frozen 1, (hB.set 1 v).frozen 2⟩
      have HF : Hid (∀ U, Frm (rwX P) W4 U → ∀ v5 c5, U.ownsRow W0.heap.size 44 1 v5 (S.rd.length + 1) (P.bs.map (fun t => rptr t.1) ++ [rptr nb]) → U.ownsRow W0.heap.size 26 3 c5 (S.rd.length + 1) ((P.cds ++ [(⟨k, .slice q1 n1 c1, lo, .slice q2 n2 c2, ln⟩ : CgD)]).flatMap encG) → ∃ P5, Nw W0 ((U.setCell ⟨wb, 1, none⟩ v5).setCell ⟨wb, 2, none⟩ c5) W0.heap.size wb P5 S5 ∧ Frm (fun k => rwX P k ∨ k = wb) W4 ((U.setCell ⟨wb, 1, none⟩ v5).setCell ⟨wb, 2, none⟩ c5)) := by
        show ∀ _, _
        intro U hF v5 c5 h1 h2
        have := hN4.turnN (t := (nb, mp, ma)) (c := ⟨k, .slice q1 n1 c1, lo, .slice q2 n2 c2, ln⟩) (R := begR S.n b ⟨k, lo, ln⟩) hF (by rw [hS4r]; exact h1) (by rw [hS4r]; exact h2) hR4 rfl ⟨.inr ho, .inr hn⟩ (fun i u hu k hk hk' => by
          have hil : i < S.rd.length := by rw [← h.bsl]; exact (List.getElem?_eq_some_iff.1 hu).1
          have h9 := (h.rnd i u S.rd[i] hu (List.getElem?_eq_getElem _)).hi k hk
          have h8 := hnew k hk'
          have := hwV2.size
          omega)
        rw [← hS5] at this
        exact ⟨_, this⟩
      have hS5n : S5.n = S.n := by rw [hS5, hS4]
      have hS5l : S5.lt = S.lt := by rw [hS5, hS4]
      have hS5r : S5.rd.length = S.rd.length + 1 := by rw [hS5, hS4]; show (S.rd ++ [_]).length = _; rw [List.length_append]; rfl
      have HS5 : Hid (S5 = { S with rd := S.rd ++ [begR S.n b ⟨k, lo, ln⟩], la := S.la.set who b }) := by show _ = _; rw [hS5, hS4]
      have HI' : Hid (Inv acc { S with rd := S.rd ++ [begR S.n b ⟨k, lo, ln⟩], la := S.la.set who b, lt := S.lt ++ asks11 S.rd.length S.n b }) := hI'
      clear hS5 hI' hS4l
      go_upto_region 14 with fail
      go_cut [12] from 70 to 90 (fun v12 wc => v12 = rptr nb ∧ ∃ P5, Nw W0 wc W0.heap.size wb P5 S5 ∧ Frm (fun k => rwX P k ∨ k = wb) W4 wc)
      case first =>
        refine region_L 18 (S := fun w' => Frm (rwX P) W4 w') (by kernel_rfl) (frm_below (Below.refl _ _).drew) (fun hHeld => ?_)
        have hdr4 : Below W4.heap.size W4 W4.drew := (Below.refl _ _).drew
        generalize W4.drew = V4 at *
        refine takeP (i := 0) (some 70) (by rfl) rfl rfl (by kernel_rfl) (by kernel_rfl) (by kernel_rfl) (fun _ _ _ h => h) (by rfl) (fun w => by go_simp; try rfl) hHeld ?_
        go_frame
        refine takeP (i := 1) (some 71) (by rfl) rfl rfl (by kernel_rfl) (by kernel_rfl) (by kernel_rfl) (fun _ _ _ h => h) (by rfl) (fun w => by go_simp; try rfl) hHeld ?_
        go_frame
        refine takeP (i := 2) (some 72) (by rfl) rfl rfl (by kernel_rfl) (by kernel_rfl) (by kernel_rfl) (fun _ _ _ h => h) (by rfl) (fun w => by go_simp; try rfl) hHeld ?_
        go_frame
        refine takeP (i := 3) (some 73) (by rfl) rfl rfl (by kernel_rfl) (by kernel_rfl) (by kernel_rfl) (fun _ _ _ h => h) (by rfl) (fun w => by go_simp; try rfl) hHeld ?_
        go_frame
        refine takeP (i := 4) (some 74) (by rfl) rfl rfl (by kernel_rfl) (by kernel_rfl) (by kernel_rfl) (fun _ _ _ h => h) (by rfl) (fun w => by go_simp; try rfl) hHeld ?_
        go_frame
        refine takeP (i := 6) (some 76) (by rfl) rfl rfl (by kernel_rfl) (by kernel_rfl) (by kernel_rfl) (fun _ _ _ h => h) (by rfl) (fun w => by go_simp; try rfl) hHeld ?_
        go_frame
        refine takeP (i := 9) (some 79) (by rfl) rfl rfl (by kernel_rfl) (by kernel_rfl) (by kernel_rfl) (fun _ _ _ h => h) (by rfl) (fun w => by go_simp; try rfl) hHeld ?_
        go_frame
        refine takeP (i := 10) (some 80) (by rfl) rfl rfl (by kernel_rfl) (by kernel_rfl) (by kernel_rfl) (fun _ _ _ h => h) (by rfl) (fun w => by go_simp; try rfl) hHeld ?_
        go_frame
        refine takeP (i := 11) (some 81) (by rfl) rfl rfl (by kernel_rfl) (by kernel_rfl) (by kernel_rfl) (fun _ _ _ h => h) (by rfl) (fun w => by go_simp; try rfl) hHeld ?_
        go_frame
        refine takeL (i := 5) [8, 15, 18] (some 75) (by rfl) rfl rfl (by kernel_rfl) (by kernel_rfl) (by kernel_rfl) (by kernel_rfl) (fun _ _ _ h => h) (by rfl) (fun w hSw => by (try dsimp only at hSw); (have g := (D4 _ hSw).1; go_simp; try rfl)) hHeld ?_
        go_frame
        refine takeL (i := 12) [15, 18] (some 82) (by rfl) rfl rfl (by kernel_rfl) (by kernel_rfl) (by kernel_rfl) (by kernel_rfl) (fun _ _ _ h => h) (by rfl) (fun w hSw => by (try dsimp only at hSw); (have g := (D4 _ hSw).2.1; go_simp; try rfl)) hHeld ?_
        go_frame
        refine takeL (i := 13) [14, 15, 18] (some 83) (by rfl) rfl rfl (by kernel_rfl) (by kernel_rfl) (by kernel_rfl) (by kernel_rfl) (fun _ _ _ h => h) (by rfl) (fun w hSw => by (try dsimp only at hSw); (have hh := (D4 _ hSw).2.2.1; have y0 := hh.at (i := 0) rfl; have y1 := hh.at (i := 1) rfl; have y2 := hh.at (i := 2) rfl; go_simp; try rfl)) hHeld ?_
        go_frame
        have hrw := own_keep hrow hdr4
        have hcw := own_keep hchw hdr4
        have zV4 := hdr4.size
        have hsep : ∀ j, (Value.slice qd4 S.rd.length cd4).ownBlock = some j → (Value.slice qc4 S.rd.length cc4).ownBlock ≠ some j := fun j h1 h2 => by have := (own_kindR hrow h1).uniq (own_kindR hchw h2); cases this
        have F0 : Frm (rwX P) W4 V4 := frm_below hdr4
        refine anyL_ready (rs := [7, 14]) (by kernel_rfl) (by simp) (AllL.cons rfl (fun K hK => ?_) (AllL.cons rfl (fun K hK => ?_) AllL.nil))
        · rw [if_pos (by rfl)]
          refine bsPtW (some 77) rfl rfl nb (by simp only [List.map_toArray, List.map_cons, List.map_nil]; rfl) ?_
          intro Z1 hP7 bb1
          have F1 := F0.trans (frm_below (X := rwX P) bb1)
          have hrw := own_keep hrw bb1
          have hcw := own_keep hcw bb1
          have z1 : W4.heap.size ≤ Z1.heap.size := F1.size
          refine hK.out _ _ F1 (fun hHeld => ?_)
          clear hK K
          try go_frame
          refine anyL_ready (rs := [8, 14]) (by kernel_rfl) (by simp) (AllL.cons rfl (fun K hK => ?_) (AllL.cons rfl (fun K hK => ?_) AllL.nil))
          · rw [if_pos (by rfl)]
            refine appPt1 (some 78) rfl rfl (v := .slice qd4 S.rd.length cd4) rfl hrw rfl hP7 (by omega) (by omega) ?_
            intro vr Z2 hvr gr atr
            have F2 : Frm (rwX P) W4 Z2 := F1.trans ⟨gr.os, gr.tape, gr.output, gr.size, fun i hi hx => gr.block i hi (fun e => hx (.inl (by rw [ed4]; exact e.symm)))⟩
            have hcw := World.ownsRow.kept hcw gr (Sep.row (fun j h1 h2 => hsep j h2 h1))
            have z2 : W4.heap.size ≤ Z2.heap.size := F2.size
            refine hK.out _ _ F2 (fun hHeld => ?_)
            clear hK K
            try go_frame
            refine anyL_ready (rs := [14]) (by kernel_rfl) (by simp) (AllL.cons rfl (fun K hK => ?_) AllL.nil)
            rw [if_pos (by rfl)]
            refine bsChW (some 84) rfl rfl k q1 q2 n1 n2 c1 c2 (by simp only [List.map_toArray, List.map_cons, List.map_nil]; rfl) ?_
            intro Z3 hP14 bb3
            have F3 := F2.trans (frm_below (X := rwX P) bb3)
            have hvr := own_keep hvr bb3
            have hcw := own_keep hcw bb3
            have z3 : W4.heap.size ≤ Z3.heap.size := F3.size
            refine hK.out _ _ F3 (fun hHeld => ?_)
            clear hK K
            try go_frame
            refine anyL_ready (rs := [15]) (by kernel_rfl) (by simp) (AllL.cons rfl (fun K hK => ?_) AllL.nil)
            rw [if_pos (by rfl)]
            refine appCh1 (some 85) rfl rfl lo ln (v := .slice qc4 S.rd.length cc4) rfl hcw rfl hP14 (by omega) (by omega) ?_
            intro vc Z4 hvc gc atc
            have F4 : Frm (rwX P) W4 Z4 := F3.trans ⟨gc.os, gc.tape, gc.output, gc.size, fun i hi hx => gc.block i hi (fun e => hx (.inr (by rw [ec4]; exact e.symm)))⟩
            have hvr := World.ownsRow.kept hvr gc (Sep.row (fun j h1 h2 => by have := (own_kindR hvr h1).uniq (own_kindR hcw h2); cases this))
            have z4 : W4.heap.size ≤ Z4.heap.size := F4.size
            refine hK.out _ _ F4 (fun hHeld => ?_)
            clear hK K
            try go_frame
            have hrf : ∃ q c, vr = .slice q (S.rd.length + 1) c := by
              rcases hvr.2 with ⟨h1, h2⟩ | ⟨g, cap, cur, h1, _⟩
              · omega
              · exact ⟨_, _, h1⟩
            have hcf : ∃ q c, vc = .slice q (S.rd.length + 1) c := by
              rcases hvc.2 with ⟨h1, h2⟩ | ⟨g, cap, cur, h1, _⟩
              · omega
              · exact ⟨_, _, h1⟩
            obtain ⟨qr, cr, er⟩ := hrf
            obtain ⟨qk, ck, ek⟩ := hcf
            subst er
            subst ek
            obtain ⟨⟨x1, g1⟩, ⟨x2, g2⟩, f1, f2⟩ := D5 Z4 F4 (.slice qr (S.rd.length + 1) cr)
            have hfin := HF.out Z4 F4 (.slice qr (S.rd.length + 1) cr) (.slice qk (S.rd.length + 1) ck) hvr hvc
            clear hvr hvc hrw hcw gr gc atr atc hP7 hP14
            refine takeP (i := 16) (some 86) (by rfl) rfl rfl (by kernel_rfl) (by kernel_rfl) (by kernel_rfl) (fun _ _ _ h => h) (by rfl) (fun w => by go_simp; try rfl) hHeld ?_
            go_frame
            refine takeP (i := 17) (some 87) (by rfl) rfl rfl (by kernel_rfl) (by kernel_rfl) (by kernel_rfl) (fun _ _ _ h => h) (by rfl) (fun w => by go_simp; try rfl) hHeld ?_
            go_frame
            refine anyL_ready (rs := [18]) (by kernel_rfl) (by simp) (AllL.last rfl (by kernel_rfl) (fun K hK => ?_))
            go_simp
            refine hK.out _ _ ?_
            clear hK K
            try go_frame
            refine anyL_ready (rs := [19]) (by kernel_rfl) (by simp) (AllL.free rfl (by kernel_rfl) (fun K hK => ?_))
            go_simp
            refine hK.out _ _ ?_
            clear hK K
            try go_frame
            refine anyL_ready (rs := [20]) (by kernel_rfl) (by simp) (AllL.free rfl (by kernel_rfl) (fun K hK => ?_))
            go_simp
            refine hK.out _ _ ?_
            clear hK K
            try go_frame
            refine anyL_ready (rs := [21]) (by kernel_rfl) (by simp) (AllL.free rfl (by kernel_rfl) (fun K hK => ?_))
            go_simp
            refine hK.out _ _ ?_
            clear hK K
            refine anyL_done (by kernel_rfl) ?_
            go_wp2_with fail
            go_meet
            exact ⟨rfl, hfin⟩
          · rw [if_pos (by rfl)]
            refine bsChW (some 84) rfl rfl k q1 q2 n1 n2 c1 c2 (by simp only [List.map_toArray, List.map_cons, List.map_nil]; rfl) ?_
            intro Z2 hP14 bb2
            have F2 := F1.trans (frm_below (X := rwX P) bb2)
            have hrw := own_keep hrw bb2
            have hcw := own_keep hcw bb2
            have hP7 := hP7.keep bb2
            have z2 : W4.heap.size ≤ Z2.heap.size := F2.size
            refine hK.out _ _ F2 (fun hHeld => ?_)
            clear hK K
            try go_frame
            refine anyL_ready (rs := [8]) (by kernel_rfl) (by simp) (AllL.cons rfl (fun K hK => ?_) AllL.nil)
            rw [if_pos (by rfl)]
            refine appPt1 (some 78) rfl rfl (v := .slice qd4 S.rd.length cd4) rfl hrw rfl hP7 (by omega) (by omega) ?_
            intro vr Z3 hvr gr atr
            have F3 : Frm (rwX P) W4 Z3 := F2.trans ⟨gr.os, gr.tape, gr.output, gr.size, fun i hi hx => gr.block i hi (fun e => hx (.inl (by rw [ed4]; exact e.symm)))⟩
            have hcw := World.ownsRow.kept hcw gr (Sep.row (fun j h1 h2 => hsep j h2 h1))
            have hP14 := blk_grownT hP14 gr (fun e => by have := (own_kindR hrw e).uniq hP14.kindR; cases this)
            have z3 : W4.heap.size ≤ Z3.heap.size := F3.size
            refine hK.out _ _ F3 (fun hHeld => ?_)
            clear hK K
            try go_frame
            refine anyL_ready (rs := [15]) (by kernel_rfl) (by simp) (AllL.cons rfl (fun K hK => ?_) AllL.nil)
            rw [if_pos (by rfl)]
            refine appCh1 (some 85) rfl rfl lo ln (v := .slice qc4 S.rd.length cc4) rfl hcw rfl hP14 (by omega) (by omega) ?_
            intro vc Z4 hvc gc atc
            have F4 : Frm (rwX P) W4 Z4 := F3.trans ⟨gc.os, gc.tape, gc.output, gc.size, fun i hi hx => gc.block i hi (fun e => hx (.inr (by rw [ec4]; exact e.symm)))⟩
            have hvr := World.ownsRow.kept hvr gc (Sep.row (fun j h1 h2 => by have := (own_kindR hvr h1).uniq (own_kindR hcw h2); cases this))
            have z4 : W4.heap.size ≤ Z4.heap.size := F4.size
            refine hK.out _ _ F4 (fun hHeld => ?_)
            clear hK K
            try go_frame
            have hrf : ∃ q c, vr = .slice q (S.rd.length + 1) c := by
              rcases hvr.2 with ⟨h1, h2⟩ | ⟨g, cap, cur, h1, _⟩
              · omega
              · exact ⟨_, _, h1⟩
            have hcf : ∃ q c, vc = .slice q (S.rd.length + 1) c := by
              rcases hvc.2 with ⟨h1, h2⟩ | ⟨g, cap, cur, h1, _⟩
              · omega
              · exact ⟨_, _, h1⟩
            obtain ⟨qr, cr, er⟩ := hrf
            obtain ⟨qk, ck, ek⟩ := hcf
            subst er
            subst ek
            obtain ⟨⟨x1, g1⟩, ⟨x2, g2⟩, f1, f2⟩ := D5 Z4 F4 (.slice qr (S.rd.length + 1) cr)
            have hfin := HF.out Z4 F4 (.slice qr (S.rd.length + 1) cr) (.slice qk (S.rd.length + 1) ck) hvr hvc
            clear hvr hvc hrw hcw gr gc atr atc hP7 hP14
            refine takeP (i := 16) (some 86) (by rfl) rfl rfl (by kernel_rfl) (by kernel_rfl) (by kernel_rfl) (fun _ _ _ h => h) (by rfl) (fun w => by go_simp; try rfl) hHeld ?_
            go_frame
            refine takeP (i := 17) (some 87) (by rfl) rfl rfl (by kernel_rfl) (by kernel_rfl) (by kernel_rfl) (fun _ _ _ h => h) (by rfl) (fun w => by go_simp; try rfl) hHeld ?_
            go_frame
            refine anyL_ready (rs := [18]) (by kernel_rfl) (by simp) (AllL.last rfl (by kernel_rfl) (fun K hK => ?_))
            go_simp
            refine hK.out _ _ ?_
            clear hK K
            try go_frame
            refine anyL_ready (rs := [19]) (by kernel_rfl) (by simp) (AllL.free rfl (by kernel_rfl) (fun K hK => ?_))
            go_simp
            refine hK.out _ _ ?_
            clear hK K
            try go_frame
            refine anyL_ready (rs := [20]) (by kernel_rfl) (by simp) (AllL.free rfl (by kernel_rfl) (fun K hK => ?_))
            go_simp
            refine hK.out _ _ ?_
            clear hK K
            try go_frame
            refine anyL_ready (rs := [21]) (by kernel_rfl) (by simp) (AllL.free rfl (by kernel_rfl) (fun K hK => ?_))
            go_simp
            refine hK.out _ _ ?_
            clear hK K
            refine anyL_done (by kernel_rfl) ?_
            go_wp2_with fail
            go_meet
            exact ⟨rfl, hfin⟩
        · rw [if_pos (by rfl)]
          refine bsChW (some 84) rfl rfl k q1 q2 n1 n2 c1 c2 (by simp only [List.map_toArray, List.map_cons, List.map_nil]; rfl) ?_
          intro Z1 hP14 bb1
          have F1 := F0.trans (frm_below (X := rwX P) bb1)
          have hrw := own_keep hrw bb1
          have hcw := own_keep hcw bb1
          have z1 : W4.heap.size ≤ Z1.heap.size := F1.size
          refine hK.out _ _ F1 (fun hHeld => ?_)
          clear hK K
          try go_frame
          refine anyL_ready (rs := [7]) (by kernel_rfl) (by simp) (AllL.cons rfl (fun K hK => ?_) AllL.nil)
          rw [if_pos (by rfl)]
          refine bsPtW (some 77) rfl rfl nb (by simp only [List.map_toArray, List.map_cons, List.map_nil]; rfl) ?_
          intro Z2 hP7 bb2
          have F2 := F1.trans (frm_below (X := rwX P) bb2)
          have hrw := own_keep hrw bb2
          have hcw := own_keep hcw bb2
          have hP14 := hP14.keep bb2
          have z2 : W4.heap.size ≤ Z2.heap.size := F2.size
          refine hK.out _ _ F2 (fun hHeld => ?_)
          clear hK K
          try go_frame
          refine anyL_ready (rs := [8]) (by kernel_rfl) (by simp) (AllL.cons rfl (fun K hK => ?_) AllL.nil)
          rw [if_pos (by rfl)]
          refine appPt1 (some 78) rfl rfl (v := .slice qd4 S.rd.length cd4) rfl hrw rfl hP7 (by omega) (by omega) ?_
          intro vr Z3 hvr gr atr
          have F3 : Frm (rwX P) W4 Z3 := F2.trans ⟨gr.os, gr.tape, gr.output, gr.size, fun i hi hx => gr.block i hi (fun e => hx (.inl (by rw [ed4]; exact e.symm)))⟩
          have hcw := World.ownsRow.kept hcw gr (Sep.row (fun j h1 h2 => hsep j h2 h1))
          have hP14 := blk_grownT hP14 gr (fun e => by have := (own_kindR hrw e).uniq hP14.kindR; cases this)
          have z3 : W4.heap.size ≤ Z3.heap.size := F3.size
          refine hK.out _ _ F3 (fun hHeld => ?_)
          clear hK K
          try go_frame
          refine anyL_ready (rs := [15]) (by kernel_rfl) (by simp) (AllL.cons rfl (fun K hK => ?_) AllL.nil)
          rw [if_pos (by rfl)]
          refine appCh1 (some 85) rfl rfl lo ln (v := .slice qc4 S.rd.length cc4) rfl hcw rfl hP14 (by omega) (by omega) ?_
          intro vc Z4 hvc gc atc
          have F4 : Frm (rwX P) W4 Z4 := F3.trans ⟨gc.os, gc.tape, gc.output, gc.size, fun i hi hx => gc.block i hi (fun e => hx (.inr (by rw [ec4]; exact e.symm)))⟩
          have hvr := World.ownsRow.kept hvr gc (Sep.row (fun j h1 h2 => by have := (own_kindR hvr h1).uniq (own_kindR hcw h2); cases this))
          have z4 : W4.heap.size ≤ Z4.heap.size := F4.size
          refine hK.out _ _ F4 (fun hHeld => ?_)
          clear hK K
          try go_frame
          have hrf : ∃ q c, vr = .slice q (S.rd.length + 1) c := by
            rcases hvr.2 with ⟨h1, h2⟩ | ⟨g, cap, cur, h1, _⟩
            · omega
            · exact ⟨_, _, h1⟩
          have hcf : ∃ q c, vc = .slice q (S.rd.length + 1) c := by
            rcases hvc.2 with ⟨h1, h2⟩ | ⟨g, cap, cur, h1, _⟩
            · omega
            · exact ⟨_, _, h1⟩
          obtain ⟨qr, cr, er⟩ := hrf
          obtain ⟨qk, ck, ek⟩ := hcf
          subst er
          subst ek
          obtain ⟨⟨x1, g1⟩, ⟨x2, g2⟩, f1, f2⟩ := D5 Z4 F4 (.slice qr (S.rd.length + 1) cr)
          have hfin := HF.out Z4 F4 (.slice qr (S.rd.length + 1) cr) (.slice qk (S.rd.length + 1) ck) hvr hvc
          clear hvr hvc hrw hcw gr gc atr atc hP7 hP14
          refine takeP (i := 16) (some 86) (by rfl) rfl rfl (by kernel_rfl) (by kernel_rfl) (by kernel_rfl) (fun _ _ _ h => h) (by rfl) (fun w => by go_simp; try rfl) hHeld ?_
          go_frame
          refine takeP (i := 17) (some 87) (by rfl) rfl rfl (by kernel_rfl) (by kernel_rfl) (by kernel_rfl) (fun _ _ _ h => h) (by rfl) (fun w => by go_simp; try rfl) hHeld ?_
          go_frame
          refine anyL_ready (rs := [18]) (by kernel_rfl) (by simp) (AllL.last rfl (by kernel_rfl) (fun K hK => ?_))
          go_simp
          refine hK.out _ _ ?_
          clear hK K
          try go_frame
          refine anyL_ready (rs := [19]) (by kernel_rfl) (by simp) (AllL.free rfl (by kernel_rfl) (fun K hK => ?_))
          go_simp
          refine hK.out _ _ ?_
          clear hK K
          try go_frame
          refine anyL_ready (rs := [20]) (by kernel_rfl) (by simp) (AllL.free rfl (by kernel_rfl) (fun K hK => ?_))
          go_simp
          refine hK.out _ _ ?_
          clear hK K
          try go_frame
          refine anyL_ready (rs := [21]) (by kernel_rfl) (by simp) (AllL.free rfl (by kernel_rfl) (fun K hK => ?_))
          go_simp
          refine hK.out _ _ ?_
          clear hK K
          refine anyL_done (by kernel_rfl) ?_
          go_wp2_with fail
          go_meet
          exact ⟨rfl, hfin⟩
      case rest =>
        obtain ⟨rfl, P5, hN5, F5⟩ := hcut
        obtain ⟨W5, hW5⟩ : ∃ W, W = wc := ⟨_, rfl⟩
        subst hW5
        have hBb5 : Blk W5 W2.heap.size (bC b) 23 := hBb4.frm F5 (fun e => by
          rcases e with (e | e) | e
          · have := (kx4.2.2.1 _ e).uniq hBb4.kindR; cases this
          · have := (kx4.2.2.2.1 _ e).uniq hBb4.kindR; cases this
          · have := (e ▸ hBb4.kindR).uniq kx4.1; cases this)
        have hb5 : Below W0.heap.size w W5 := hbw4.trans (F5.below lB4 (fun k hk => by
          rcases hk with (e | e) | e
          · exact (hN4.rds.lt k e).1
          · exact (hN4.chs.lt k e).1
          · subst e; exact h.gew))
        clear HF D5 D4 hR4 hN4 hrow hchw w1 w2 F5 hX4 hBb4 hnew kx4 hbw4 ed4 ec4
        obtain ⟨d0, -, -, -, -, -⟩ := hN5.cells
        rw [hS5n] at d0
        have hbv := Below.refl W5.heap.size W5
        have hIn : 1 ≤ S.n ∧ S.n ≤ 5 := ⟨hI.n1, hI.n5⟩
        go_wp2_with fail
        clear d0 hbv
        go_loopw [95] (fun iv wr => ∃ (j : Nat) (P' : NwP), j ≤ S.n ∧ iv = .int .i64 (j : Int) ∧ Nw W0 wr W0.heap.size wb P' { S5 with lt := S5.lt ++ asks11 S.rd.length j b } ∧ Blk wr W2.heap.size (bC b) 23 ∧ Below W0.heap.size w wr) (fun iv _ => S.n - (intOf iv).toNat)
        case atStart => exact ⟨0, P5, by omega, rfl, by show Nw W0 W5 _ _ _ { S5 with lt := S5.lt ++ [] }; rw [List.append_nil]; exact hN5, hBb5, hb5⟩
        case round =>
          obtain ⟨j, P', hj, rfl, hN, hXr, hbr⟩ := hrel
          clear hN5 hBb5
          by_cases cj : j = S.n
          · have i9 : ¬ (j : Int) < (S.n : Int) := by omega
            have i10 : ¬ j < S.n := by omega
            have HN : Hid (Nw W0 wr W0.heap.size wb P' { S with rd := S.rd ++ [begR S.n b ⟨k, lo, ln⟩], la := S.la.set who b, lt := S.lt ++ asks11 S.rd.length S.n b }) := by
              show Nw _ _ _ _ _ _
              have e := HS5.out
              rw [cj, e] at hN
              exact hN
            clear cj hN
            go_wp2_with fail
            go_ret
            refine ⟨rfl, P', _, HN.out, ⟨acc, HI'.out⟩, rfl, ⟨b, rfl⟩, ?_, hbr⟩
            show (S.lt ++ asks11 S.rd.length S.n b).length ≤ _
            rw [List.length_append, asks_len]
            omega
          · have hjn : j < S.n := by omega
            have hji : (j : Int) < (S.n : Int) := by omega
            have hNL : ({ S5 with lt := S5.lt ++ asks11 S.rd.length j b } : Net).lt.length = S.lt.length + j := by show (S5.lt ++ asks11 S.rd.length j b).length = _; rw [List.length_append, asks_len, hS5l]
            obtain ⟨ql, cl, el⟩ := hN.letters
            rw [hNL] at el
            obtain ⟨qd5, cd5, ed5⟩ := hN.roundsF
            have ed5' : P'.rv = .slice qd5 (S.rd.length + 1) cd5 := by rw [ed5]; show Value.slice qd5 S5.rd.length cd5 = _; rw [hS5r]
            obtain ⟨-, e1, -, e12, hfz, hwl⟩ := hN.cells
            have D : ∀ U, Below wr.heap.size wr U → Blk U W2.heap.size (bC b) 23 ∧ U.cell? ⟨wb, 12, none⟩ = some (.slice ql (S.lt.length + j) cl) ∧ U.cell? ⟨wb, 1, none⟩ = some (.slice qd5 (S.rd.length + 1) cd5) := fun U hb => ⟨hXr.keep hb, by rw [e12 U hb, el], by rw [e1 U hb, ed5']⟩
            clear e1 ed5 ed5' e12
            have Hs3 : Hid (IntKind.i64.wrap (S.rd.length : Int) = (S.rd.length : Int)) := by show _ = _; simp [IntKind.wrap, IntKind.signed, IntKind.bits] <;> omega
            go_upto_region 18 with fail
            refine region_L 15 (S := fun w' => Below wr.heap.size wr w') (by kernel_rfl) ((Below.refl _ _).drew) (fun hHeld => ?_)
            have hdr : Below wr.heap.size wr wr.drew := hHeld
            generalize wr.drew = V0 at *
            refine takeP (i := 0) (some 98) (by rfl) rfl rfl (by kernel_rfl) (by kernel_rfl) (by kernel_rfl) (fun _ _ _ h => h) (by rfl) (fun w => by go_simp; try rfl) hHeld ?_
            go_frame
            refine takeP (i := 1) (some 99) (by rfl) rfl rfl (by kernel_rfl) (by kernel_rfl) (by kernel_rfl) (fun _ _ _ h => h) (by rfl) (fun w => by go_simp; try rfl) hHeld ?_
            go_frame
            refine takeP (i := 2) (some 100) (by rfl) rfl rfl (by kernel_rfl) (by kernel_rfl) (by kernel_rfl) (fun _ _ _ h => h) (by rfl) (fun w => by go_simp; try rfl) hHeld ?_
            go_frame
            refine takeP (i := 3) (some 101) (by rfl) rfl rfl (by kernel_rfl) (by kernel_rfl) (by kernel_rfl) (fun _ _ _ h => h) (by rfl) (fun w => by go_simp; try rfl) hHeld ?_
            go_frame
            refine takeP (i := 5) (some 103) (by rfl) rfl rfl (by kernel_rfl) (by kernel_rfl) (by kernel_rfl) (fun _ _ _ h => h) (by rfl) (fun w => by go_simp; try rfl) hHeld ?_
            go_frame
            refine takeP (i := 6) (some 104) (by rfl) rfl rfl (by kernel_rfl) (by kernel_rfl) (by kernel_rfl) (fun _ _ _ h => h) (by rfl) (fun w => by go_simp; try rfl) hHeld ?_
            go_frame
            refine takeP (i := 7) (some 105) (by rfl) rfl rfl (by kernel_rfl) (by kernel_rfl) (by kernel_rfl) (fun _ _ _ h => h) (by rfl) (fun w => by go_simp; try rfl) hHeld ?_
            go_frame
            refine takeP (i := 11) (some 109) (by rfl) rfl rfl (by kernel_rfl) (by kernel_rfl) (by kernel_rfl) (fun _ _ _ h => h) (by rfl) (fun w => by go_simp; try rfl) hHeld ?_
            go_frame
            refine takeL (i := 4) [15] (some 102) (by rfl) rfl rfl (by kernel_rfl) (by kernel_rfl) (by kernel_rfl) (by kernel_rfl) (fun _ _ _ h => h) (by rfl) (fun w hSw => by (try dsimp only at hSw); (have hcc := (D _ hSw).2.1; go_simp; try rfl)) hHeld ?_
            go_frame
            refine takeL (i := 8) [9, 10, 13, 14, 15] (some 106) (by rfl) rfl rfl (by kernel_rfl) (by kernel_rfl) (by kernel_rfl) (by kernel_rfl) (fun _ _ _ h => h) (by rfl) (fun w hSw => by (try dsimp only at hSw); (have hcc := (D _ hSw).2.2; go_simp; try rfl)) hHeld ?_
            go_frame
            refine takeP (i := 9) (some 107) (by rfl) rfl rfl (by kernel_rfl) (by kernel_rfl) (by kernel_rfl) (fun _ _ _ h => h) (by rfl) (fun w => by go_simp; try rfl) hHeld ?_
            go_frame
            refine takeP (i := 10) (some 108) (by rfl) rfl rfl (by kernel_rfl) (by kernel_rfl) (by kernel_rfl) (fun _ _ _ h => h) (by rfl) (fun w => by go_simp; try rfl) hHeld ?_
            go_frame
            refine takeL (i := 12) [13, 14, 15] (some 110) (by rfl) rfl rfl (by kernel_rfl) (by kernel_rfl) (by kernel_rfl) (by kernel_rfl) (fun _ _ _ h => h) (by rfl) (fun w hSw => by (try dsimp only at hSw); (have hh := (D _ hSw).1; have y0 := hh.at (i := 0) rfl; have y1 := hh.at (i := 1) rfl; have y2 := hh.at (i := 2) rfl; go_simp; try rfl)) hHeld ?_
            go_frame
            refine takeP (i := 13) (some 111) (by rfl) rfl rfl (by kernel_rfl) (by kernel_rfl) (by kernel_rfl) (fun _ _ _ h => h) (by rfl) (fun w => by go_simp; try rfl) hHeld ?_
            go_frame
            refine anyL_ready (rs := [14]) (by kernel_rfl) (by simp) (AllL.cons rfl (fun K hK => ?_) AllL.nil)
            rw [if_pos (by rfl)]
            refine bsLtW (some 112) rfl rfl 0 (S.rd.length : Int) (j : Int) b zB zB zB none none 0 0 0 0 (by simp only [List.map_toArray, List.map_cons, List.map_nil]; simp [Act.eval]; exact ⟨Hs3.out, rfl, rfl, rfl, rfl, rfl, rfl, rfl, rfl, rfl⟩) ?_
            intro W6 hB6 b6
            have hb6 := ab_trans hdr b6
            refine hK.out _ _ hb6 (fun hHeld => ?_)
            clear hK K
            try go_frame
            have hN6 := hN.keep hb6
            have hown6 := hN6.lts
            rw [hNL, el] at hown6
            refine anyL_ready (rs := [15]) (by kernel_rfl) (by simp) (AllL.last rfl (by kernel_rfl) (fun K hK => ?_))
            rw [if_pos (by rfl)]
            refine appLt1 (some 113) rfl rfl ⟨0, S.rd.length, j, b, zB, zB, zB, .slice none 0 0, [], .slice none 0 0, []⟩ (v := .slice ql (S.lt.length + j) cl) rfl hown6 rfl hB6 ⟨_, _, _, rfl⟩ ⟨_, _, _, rfl⟩ (by omega) hN6.lB ?_
            intro v7 W7 own7 gr7 at7
            rw [← el] at gr7
            have hm7 := hN6.more (v := v7) (l := ⟨0, S.rd.length, j, b, zB, zB, zB, .slice none 0 0, [], .slice none 0 0, []⟩) gr7 (by rw [hNL]; exact own7) ⟨Im.nil _ _ _, Im.nil _ _ _⟩
            obtain ⟨hN7, F7⟩ := hm7
            have hc7 : ∃ q c, v7 = .slice q (S.lt.length + j + 1) c := by
              rcases own7.2 with ⟨h1, h2⟩ | ⟨g, cap, cur, h1, _⟩
              · omega
              · exact ⟨_, _, h1⟩
            obtain ⟨q7, c7, e7⟩ := hc7
            subst e7
            have hBk7 : W7.cell? ⟨wb, 12, none⟩ = some (.slice ql (S.lt.length + j) cl) ∧ W7.frozen? ⟨wb, 12, none⟩ = false := by
              obtain ⟨x, y, z, e, hBw⟩ := hN6.blk
              have hF : Frm (fun k => P'.lv.ownBlock = some k) W6 W7 := ⟨gr7.os, gr7.tape, gr7.output, gr7.size, fun i hi hx => gr7.block i hi (fun e => hx e.symm)⟩
              have h9 := hBw.frm hF (fun e => by have := (hN6.kinds.2.2.2.2 _ e).uniq hBw.kindR; cases this)
              refine ⟨?_, h9.frozen 12⟩
              rw [← el]
              exact h9.at (i := 12) rfl
            obtain ⟨hB7w, hfz7⟩ := hBk7
            have hX6 := (D _ hb6).1
            have hX7 := hX6.frm F7 (fun e => by
              rcases e with e | e
              · have := (hN6.kinds.2.2.2.2 _ e).uniq hX6.kindR; cases this
              · have := hX6.kindR.uniq (e ▸ hN6.kinds.1); cases this)
            refine hK.out _ _ ?_
            clear hK K
            try go_frame
            refine anyL_ready (rs := [16]) (by kernel_rfl) (by simp) (AllL.free rfl (by kernel_rfl) (fun K hK => ?_))
            go_simp
            refine hK.out _ _ ?_
            clear hK K
            try go_frame
            refine anyL_ready (rs := [17]) (by kernel_rfl) (by simp) (AllL.free rfl (by kernel_rfl) (fun K hK => ?_))
            go_simp
            refine hK.out _ _ ?_
            clear hK K
            try go_frame
            refine anyL_ready (rs := [18]) (by kernel_rfl) (by simp) (AllL.free rfl (by kernel_rfl) (fun K hK => ?_))
            go_simp
            refine hK.out _ _ ?_
            clear hK K
            refine anyL_done (by kernel_rfl) ?_
            go_wp2_with fail
            have hb7 : Below W0.heap.size w (W7.setCell ⟨wb, 12, none⟩ (.slice q7 (S.lt.length + j + 1) c7)) := (hbr.trans (hb6.mono hN.lB)).trans (F7.below hN6.lB (fun k hk => by rcases hk with e | e; exact (hN6.lts.lt k e).1; subst e; exact hN6.gew))
            refine ⟨⟨j + 1, { P' with lv := .slice q7 (S.lt.length + j + 1) c7, lds := P'.lds ++ [⟨0, S.rd.length, j, b, zB, zB, zB, .slice none 0 0, [], .slice none 0 0, []⟩] }, by omega, rfl, ?_, hX7, hb7⟩, by simp only [intOf]; omega⟩
            rw [asks_succ, ← List.append_assoc]
            exact hN7
    · have hjn : j < S.rd.length := by omega
      have hji : (j : Int) < (S.rd.length : Int) := by omega
      obtain ⟨R, hR⟩ : ∃ R, S.rd[j]? = some R := ⟨S.rd[j], List.getElem?_eq_getElem _⟩
      obtain ⟨gd, cd', t, erv, hcd, hcm, htt, hcell, hRn⟩ := hNr.round hR
      have hq : qd = some ⟨gd, 0, none⟩ ∧ cd = cd' := by rw [ed] at erv; injection erv with e1 e2 e3; exact ⟨e1, e3⟩
      obtain ⟨rfl, rfl⟩ := hq
      have hcl := hcell wr (Below.refl _ _)
      obtain ⟨-, r1, r2, r3, -, -, -⟩ := hear_cells hRn
      obtain ⟨vo5, vn5, vv5, hB5, -⟩ := hRn.mem
      have m12 : wr.cell? ⟨t.1, 12, none⟩ = some (.int .i64 R.mt.n) := hB5.at (i := 12) rfl
      have m13 : wr.cell? ⟨t.1, 13, none⟩ = some (.int .i64 R.mt.nd) := hB5.at (i := 13) rfl
      have m14 : wr.cell? ⟨t.1, 14, none⟩ = some (.int .i64 R.mt.lf) := hB5.at (i := 14) rfl
      have hmn := (hI.bn j R hR).2
      clear hB5 hcell
      go_wp2_with fail
      refine (rmet_any t.1 R.mt wr m12 m13 m14).mono ?_
      rintro e W2 ⟨rfl, b2⟩
      go_upto_region 6 with fail
      obtain ⟨W3, hE3, hM, b3⟩ := blk1 W2 (bC R.mt) 23
      rw [show W2.alloc (.cells _ 23) = W3 from hE3]
      clear hE3 hcl m12 m13 m14
      have hb3 := ab_trans b2 b3
      obtain ⟨y0, y1, y2⟩ := cells3 hM
      have s0 := t0 _ hb3
      have s1 := t1 _ hb3
      have s2 := t2 _ hb3
      clear t0 t1 t2
      have hbv := Below.refl W3.heap.size W3
      go_wp2_with fail
      refine (rbless_any tp R.mt W3).mono ?_
      rintro e W4 ⟨rfl, b4⟩
      have hb4 := ab_trans hb3 b4
      have hbw4 := ab_trans hbr hb4
      have hT4 := hTr.keep hb4
      have hX4 := hXr.keep hb4
      have z4 := hb4.size
      cases hL : lt3 tp R.mt
      · clear y0 y1 y2 s0 s1 s2
        go_wp2_with fail
        exact ⟨⟨j + 1, tp, by omega, rfl, hT4, hX4, hle, htn, ht0, hbw4, by omega⟩, by simp only [intOf]; omega⟩
      · go_wp2_with fail
        refine (show Calls Try.prog 15 #[rptr t.1] W4 (fun e w' => e = .returned (.agg #[.int .i64 R.b.n, .int .i64 R.b.nd, .int .i64 R.b.lf]) ∧ Below W4.heap.size W4 w') from rballot_any t.1 R.b W4 (r1 _ hb4) (r2 _ hb4) (r3 _ hb4)).mono ?_
        rintro e W5 ⟨rfl, b5⟩
        have hb5 := ab_trans hb4 b5
        have hbw5 := ab_trans hbr hb5
        have hT5 := hTr.keep hb5
        have hX5 := hXr.keep hb5
        have z5 := hb5.size
        by_cases hnd : R.b.nd = (who : Int)
        · have zn : (R.b.nd == (who : Int)) = true := by simp [hnd]
          have y0' := y0 _ (ab_trans b4 b5)
          have y1' := y1 _ (ab_trans b4 b5)
          have y2' := y2 _ (ab_trans b4 b5)
          have o0 : W5.cell? ⟨A.heap.size, 0, none⟩ = some (.int .i64 tp.n) := hT5.at (i := 0) rfl
          have o1 : W5.cell? ⟨A.heap.size, 1, none⟩ = some (.int .i64 tp.nd) := hT5.at (i := 1) rfl
          have o2 : W5.cell? ⟨A.heap.size, 2, none⟩ = some (.int .i64 tp.lf) := hT5.at (i := 2) rfl
          have f0 := hT5.frozen 0
          have f1 := hT5.frozen 1
          have f2 := hT5.frozen 2
          have hgt : Hid (leK xl R.mt ∧ 0 ≤ R.mt.n) := by
            show _ ∧ _
            refine ⟨leK_trans hle (lt_leK hL), ?_⟩
            unfold lt3 at hL
            rw [decide_eq_true_eq] at hL
            omega
          have hne : W2.heap.size ≠ A.heap.size := by have := b2.size; omega
          clear y0 y1 y2 s0 s1 s2 hnd hL
          go_wp2_with fail
          apply_assumption
          change wpList _ _ _ _ (Act.put _ _ (Value.int .i64 R.b.nd)) _
          go_frame
          go_wp2_with fail
          have C6 := ((chg_set W5 A.heap.size 0 (.int .i64 R.mt.n)).trans (chg_set _ A.heap.size 1 (.int .i64 R.mt.nd))).trans (chg_set _ A.heap.size 2 (.int .i64 R.mt.lf))
          exact ⟨⟨j + 1, R.mt, by omega, rfl, ((hT5.set 0 _).set 1 _).set 2 _, hX5.chg C6 (by omega), hgt.out.1, hmn, hgt.out.2, ab_chg hbw5 C6 (by omega), by rw [C6.size]; omega⟩, by simp only [intOf]; omega⟩
        · have zn : (R.b.nd == (who : Int)) = false := by simp [hnd]
          clear y0 y1 y2 s0 s1 s2 hL
          go_wp2_with fail
          apply_assumption
          change wpList _ _ _ _ (Act.put _ _ (Value.int .i64 R.b.nd)) _
          go_frame
          go_wp2_with fail
          exact ⟨⟨j + 1, tp, by omega, rfl, hT5, hX5, hle, htn, ht0, hbw5, by omega⟩, by simp only [intOf]; omega⟩
end Go.Proofs.Ytodmhohccclhmaa
