/-
  Keeper: a register is made sure, and then the key's, where the diary is rewritten first.
-/
import Derived.Test.YtlhamckpgijjmaaPk51
namespace Go.Proofs.Ytlhamckpgijjmaa
open Go.RowKit
set_option linter.unusedVariables false
set_option maxRecDepth 100000

theorem Km.mw {b d kb : Nat} {w w' w'' : World} {v v' v'' : Value} (h : Km b d kb w w' v v') (m : Mw b d w' w'' v' v'') : Km b d kb w w'' v v'' :=
  ⟨m.os.trans h.os, m.tape.trans h.tape, m.output.trans h.output, Nat.le_trans h.size m.size, fun k hk h1 h2 h3 h4 => (m.other k (Nat.lt_of_lt_of_le hk h.size) h1 h2 (fun e => by
    rcases h.next k e with e | e
    · exact h4 e
    · omega)).trans (h.other k hk h1 h2 h3 h4), fun x hx => by
    rcases m.next x hx with e | e
    · exact h.next x e
    · exact .inr (Nat.le_trans h.size e)⟩
theorem sumT_row {os : List KD} (hrg : ∀ x ∈ os, RgS (rgK x)) : ∀ (k : Nat) (l : List Nat), l ∈ sumT os k → Byt l ∧ l.length ≤ 360 := by
  intro k
  induction k with
  | zero => intro l hl; cases hl
  | succ k ih =>
    intro l hl
    rcases List.mem_append.1 (show l ∈ sumT os k ++ _ from hl) with h | h
    · exact ih l h
    · cases hx : os[k]? with
      | none => rw [hx] at h; cases h
      | some x =>
        rw [hx] at h
        dsimp only at h
        split at h
        · cases h
        · rw [List.mem_singleton.1 h]
          exact ⟨rowB_byt _ _, rowB_short _ _ (hrg x (List.mem_of_getElem? hx)).2⟩
set_option maxHeartbeats 8000000 in
theorem kkeep_many (base b : Nat) (v0 : Value) (d kb : Nat) (S0 S : TS) (nr0 nb0 nr nb : Nat) (node : Int) (os : List KD) (key : Nat) (r : Rg) (q : Option Addr) (n c : Nat) (w : World) (hKp : Kp w base b v0 d kb S0 nr0 nb0 node os) (hst0 : S0.steps < 4611686018427387000) (hnr0 : 200 < nr0) (hst : S.steps < 4611686018427387000) (hnb : nb ≤ 4611686018427387904) (hk : key < 100)
    (hv : Io w base (.slice q n c) r.l) (hl : r.l.length ≤ 1000) (h6 : In64 (nmR r)) (hby : Byt (rowB (key : Int) r)) (hrl : (rowB (key : Int) r).length ≤ 16376) (hrg : ∀ x ∈ os, RgS (rgK x)) (hrw : rwN S0 (sumT os 100) = 0) (hS : rwS S0 (sumT os 100) = S) (hnrE : (sumT os 100).length = nr) (hnbE : spN (sumT os 100) = nb) :
    Calls Try.prog 30 #[tptr kb, .int .i64 (key : Int), rV r.p r.a (.slice q n c)] w fun e w' => e = .returned (errV (wrN S (frm (rowB (key : Int) r)))) ∧ ∃ v',
      (wrN S (frm (rowB (key : Int) r)) = 0 → Kp w' base b v' d kb (wrS S (frm (rowB (key : Int) r))) (nr + 1) (nb + (8 + (rowB (key : Int) r).length)) node (os.set key ⟨r.p, r.a, .slice q n c, r.l⟩)) ∧
      (wrN S (frm (rowB (key : Int) r)) ≠ 0 → Kp w' base b v' d kb (wrS S (frm (rowB (key : Int) r))) nr nb node os) ∧ Km b d kb w w' v0 v' := by
  have i1 : 200 < (nr0 : Int) := by omega
  have k1 : (key : Int) < 100 := by omega
  have hsl := sumT_len os 100
  have hrows := sumT_row hrg 100
  go_enter Try.func30, Try.ntmps30
  go_upto_region 1 with fail
  obtain ⟨A0, hAe, hB0, bA⟩ := blk1 w (rC r.p r.a (.slice q n c)) 40
  rw [show w.alloc (.cells _ 40) = A0 from hAe]
  clear hAe
  have hT0 := hKp.tp.keep bA
  have hD0 := hKp.dy.keep bA
  have hk0 := hKp.kp.keep bA
  have hv0 := hv.keep bA
  have c0 := (kp_0 hk0).1
  go_wp2_with fail
  refine (dlen_any b d nr0 nb0 A0 hD0).mono ?_
  rintro e A0 ⟨rfl, rfl⟩
  go_upto_region 2 with fail
  clear c0 i1
  refine region_L 6 (S := fun w' => Below A0.heap.size A0 w') (by kernel_rfl) ((Below.refl _ _).drew) (fun hHeld => ?_)
  have hdr : Below A0.heap.size A0 A0.drew := hHeld
  generalize A0.drew = V0 at *
  refine takeP (i := 0) (some 15) (by rfl) rfl rfl (by kernel_rfl) (by kernel_rfl) (by kernel_rfl) (fun _ _ _ h => h) (by rfl) (fun w => by go_simp; try rfl) hHeld ?_
  go_frame
  refine takeP (i := 1) (some 16) (by rfl) rfl rfl (by kernel_rfl) (by kernel_rfl) (by kernel_rfl) (fun _ _ _ h => h) (by rfl) (fun w => by go_simp; try rfl) hHeld ?_
  go_frame
  refine takeP (i := 2) (some 17) (by rfl) rfl rfl (by kernel_rfl) (by kernel_rfl) (by kernel_rfl) (fun _ _ _ h => h) (by rfl) (fun w => by go_simp; try rfl) hHeld ?_
  go_frame
  refine takeP (i := 4) (some 19) (by rfl) rfl rfl (by kernel_rfl) (by kernel_rfl) (by kernel_rfl) (fun _ _ _ h => h) (by rfl) (fun w => by go_simp; try rfl) hHeld ?_
  go_frame
  refine takeL (i := 3) [6] (some 18) (by rfl) rfl rfl (by kernel_rfl) (by kernel_rfl) (by kernel_rfl) (by kernel_rfl) (fun _ _ _ h => h) (by rfl) (fun w hSw => by (try dsimp only at hSw); (have hh := (kp_0 (hk0.keep hSw)).1; go_simp; try rfl)) hHeld ?_
  go_frame
  refine anyL_ready (rs := [5]) (by kernel_rfl) (by simp) (AllL.cons rfl (fun K hK => ?_) AllL.nil)
  go_simp
  refine (ksummary_any kb d node os V0 (hk0.keep hdr) hKp.len (fun x hx => ((hKp.im x hx).keep (ab_trans bA hdr)).is) hrg).mono ?_
  rintro e W1 ⟨vx, vs, rfl, hL1, b1⟩
  show K _ _
  have hb1 := ab_trans hdr b1
  refine hK.out _ _ hb1 (fun hHeld => ?_)
  clear hK K
  try go_frame
  refine anyL_ready (rs := [6]) (by kernel_rfl) (by simp) (AllL.last rfl (by kernel_rfl) (fun K hK => ?_))
  go_simp
  have hT1 := hT0.keep hb1
  have hD1 := hD0.keep hb1
  refine (drewrite_any base b d nr0 nb0 v0 vx vs (sumT os 100) S0 W1 hT1 hst0 hD1 (hL1.bag.ls hL1.row) (fun l hl => (hrows l hl).1) (fun l hl => Nat.le_trans (hrows l hl).2 (by omega))).mono ?_
  rw [hrw, hS]
  rintro e A ⟨rfl, v, hTA, mw, hz, -⟩
  have hDA := hz rfl
  rw [hnrE, hnbE] at hDA
  have hk1 := hk0.keep hb1
  have hX1 := hB0.keep hb1
  have hkA : Blk A kb (kpC d node os) 70 := mw.blk hk1 (blk_ne hk1 hT1.blk (by decide)) (blk_ne hk1 hD1 (by decide)) (blk_own hT1.own hk1 (by decide))
  have hB : Blk A w.heap.size (rC r.p r.a (.slice q n c)) 40 := mw.blk hX1 (blk_ne hX1 hT1.blk (by decide)) (blk_ne hX1 hD1 (by decide)) (blk_own hT1.own hX1 (by decide))
  have imA : ∀ x ∈ os, Io A base x.v x.l := fun x hx => own_mw (((hKp.im x hx).keep bA).keep hb1) hT1 hD1 mw (by decide) (by decide) (by decide)
  have hvA : Io A base (.slice q n c) r.l := own_mw (hv0.keep hb1) hT1 hD1 mw (by decide) (by decide) (by decide)
  have mA : Km b d kb w A v0 v := ((mw_below v0 (ab_trans bA hb1)).trans mw).km
  clear hT1 hD1 hk1 hX1 mw hz hL1 hT0 hD0 hk0 hv0 hB0 hdr hb1 b1 bA
  rw [show errV 0 = .nilIface from rfl]
  show K _ _
  refine hK.out _ _ ?_
  clear hK K
  try go_frame
  refine anyL_ready (rs := [7]) (by kernel_rfl) (by simp) (AllL.free rfl (by kernel_rfl) (fun K hK => ?_))
  go_simp
  refine hK.out _ _ ?_
  clear hK K
  refine anyL_done (by kernel_rfl) ?_
  have E0 := ne00
  have hnr : nr ≤ 200 := by omega
  go_upto_region 5 with fail
  clear E0
  refine region_L 7 (S := fun w' => Below A.heap.size A w') (by kernel_rfl) ((Below.refl _ _).drew) (fun hHeld => ?_)
  have hdr : Below A.heap.size A A.drew := hHeld
  generalize A.drew = V0 at *
  refine takeP (i := 0) (some 25) (by rfl) rfl rfl (by kernel_rfl) (by kernel_rfl) (by kernel_rfl) (fun _ _ _ h => h) (by rfl) (fun w => by go_simp; try rfl) hHeld ?_
  go_frame
  refine takeP (i := 1) (some 26) (by rfl) rfl rfl (by kernel_rfl) (by kernel_rfl) (by kernel_rfl) (fun _ _ _ h => h) (by rfl) (fun w => by go_simp; try rfl) hHeld ?_
  go_frame
  refine takeP (i := 2) (some 27) (by rfl) rfl rfl (by kernel_rfl) (by kernel_rfl) (by kernel_rfl) (fun _ _ _ h => h) (by rfl) (fun w => by go_simp; try rfl) hHeld ?_
  go_frame
  refine takeP (i := 4) (some 29) (by rfl) rfl rfl (by kernel_rfl) (by kernel_rfl) (by kernel_rfl) (fun _ _ _ h => h) (by rfl) (fun w => by go_simp; try rfl) hHeld ?_
  go_frame
  refine takeL (i := 3) [7] (some 28) (by rfl) rfl rfl (by kernel_rfl) (by kernel_rfl) (by kernel_rfl) (by kernel_rfl) (fun _ _ _ h => h) (by rfl) (fun w hSw => by (try dsimp only at hSw); (have hh := (kp_0 (hkA.keep hSw)).1; go_simp; try rfl)) hHeld ?_
  go_frame
  refine takeL (i := 5) [6, 7] (some 30) (by rfl) rfl rfl (by kernel_rfl) (by kernel_rfl) (by kernel_rfl) (by kernel_rfl) (fun _ _ _ h => h) (by rfl) (fun w hSw => by (try dsimp only at hSw); (have hh := hB.keep hSw; have t0 := hh.at (i := 0) rfl; have t1 := hh.at (i := 1) rfl; have t2 := hh.at (i := 2) rfl; have t3 := hh.at (i := 3) rfl; have t4 := hh.at (i := 4) rfl; have t5 := hh.at (i := 5) rfl; have t6 := hh.at (i := 6) rfl; go_simp; try rfl)) hHeld ?_
  go_frame
  refine anyL_ready (rs := [6]) (by kernel_rfl) (by simp) (AllL.cons rfl (fun K hK => ?_) AllL.nil)
  go_simp
  refine (krow_any (key : Int) r (.slice q n c) V0 (hvA.keep hdr).is hl (fun x hx => by rw [List.mem_singleton.1 hx]; omega) h6).mono ?_
  rintro e W1 ⟨v1, rfl, O1, b1⟩
  show K _ _
  have hb1 := ab_trans hdr b1
  refine hK.out _ _ hb1 (fun hHeld => ?_)
  clear hK K
  try go_frame
  refine anyL_ready (rs := [7]) (by kernel_rfl) (by simp) (AllL.last rfl (by kernel_rfl) (fun K hK => ?_))
  go_simp
  refine (dadd_any base b d nr nb v v1 (rowB (key : Int) r) S W1 (hTA.keep hb1) hst (hDA.keep hb1) O1.sl hby hrl (by omega) hnb).mono ?_
  rintro e W2 ⟨rfl, v', hT2, mw, hz, hnz⟩
  have hT1 := hTA.keep hb1
  have hD1 := hDA.keep hb1
  have hk1 := hkA.keep hb1
  have hX1 := hB.keep hb1
  have hkW : Blk W2 kb (kpC d node os) 70 := mw.blk hk1 (blk_ne hk1 hT1.blk (by decide)) (blk_ne hk1 hD1 (by decide)) (blk_own hT1.own hk1 (by decide))
  have hXW : Blk W2 w.heap.size (rC r.p r.a (.slice q n c)) 40 := mw.blk hX1 (blk_ne hX1 hT1.blk (by decide)) (blk_ne hX1 hD1 (by decide)) (blk_own hT1.own hX1 (by decide))
  have imk : ∀ x ∈ os, Io W2 base x.v x.l := fun x hx => own_mw ((imA x hx).keep hb1) hT1 hD1 mw (by decide) (by decide) (by decide)
  have hvW : Io W2 base (.slice q n c) r.l := own_mw (hvA.keep hb1) hT1 hD1 mw (by decide) (by decide) (by decide)
  have mwm : Km b d kb w W2 v0 v' := (mA.below hb1).mw mw
  clear hT1 hD1 hk1 hX1 mw
  rcases wrN_of S (frm (rowB (key : Int) r)) with hN | hN | hN | hN
  · rw [hN]
    rw [show errV 0 = .nilIface from rfl]
    have HN : Hid (wrN S (frm (rowB (key : Int) r)) = 0) := hN
    have hD2 := hz hN
    clear hN hz hnz
    show K _ _
    refine hK.out _ _ ?_
    clear hK K
    try go_frame
    refine anyL_ready (rs := [8]) (by kernel_rfl) (by simp) (AllL.free rfl (by kernel_rfl) (fun K hK => ?_))
    go_simp
    refine hK.out _ _ ?_
    clear hK K
    refine anyL_done (by kernel_rfl) ?_
    have E1 := ne00
    go_upto_region 8 with fail
    clear E1
    refine region_L 6 (S := fun w' => Below W2.heap.size W2 w') (by kernel_rfl) ((Below.refl _ _).drew) (fun hHeld => ?_)
    have hd2 : Below W2.heap.size W2 W2.drew := hHeld
    generalize W2.drew = V3 at *
    refine takeP (i := 0) (some 36) (by rfl) rfl rfl (by kernel_rfl) (by kernel_rfl) (by kernel_rfl) (fun _ _ _ h => h) (by rfl) (fun w => by go_simp; try rfl) hHeld ?_
    go_frame
    refine takeP (i := 1) (some 37) (by rfl) rfl rfl (by kernel_rfl) (by kernel_rfl) (by kernel_rfl) (fun _ _ _ h => h) (by rfl) (fun w => by go_simp; try rfl) hHeld ?_
    go_frame
    refine takeL (i := 2) [6] (some 38) (by rfl) rfl rfl (by kernel_rfl) (by kernel_rfl) (by kernel_rfl) (by kernel_rfl) (fun _ _ _ h => h) (by rfl) (fun w hSw => by (try dsimp only at hSw); (have hh := hXW.keep hSw; have t0 := hh.at (i := 0) rfl; have t1 := hh.at (i := 1) rfl; have t2 := hh.at (i := 2) rfl; have t3 := hh.at (i := 3) rfl; have t4 := hh.at (i := 4) rfl; have t5 := hh.at (i := 5) rfl; have t6 := hh.at (i := 6) rfl; go_simp; try rfl)) hHeld ?_
    go_frame
    refine takeP (i := 3) (some 39) (by rfl) rfl rfl (by kernel_rfl) (by kernel_rfl) (by kernel_rfl) (fun _ _ _ h => h) (by rfl) (fun w => by go_simp; try rfl) hHeld ?_
    go_frame
    refine takeP (i := 4) (some 40) (by rfl) rfl rfl (by kernel_rfl) (by kernel_rfl) (by kernel_rfl) (fun _ _ _ h => h) (by rfl) (fun w => by go_simp; try rfl) hHeld ?_
    go_frame
    refine takeP (i := 5) (some 41) (by rfl) rfl rfl (by kernel_rfl) (by kernel_rfl) (by kernel_rfl) (fun _ _ _ h => h) (by rfl) (fun w => by go_simp; try rfl) hHeld ?_
    go_frame
    obtain ⟨s1, s2, s3⟩ := kp_stored (hkW.keep hd2) (m := key) (by rw [hKp.len]; exact hk) ⟨r.p, r.a, .slice q n c, r.l⟩
    refine anyL_ready (rs := [6]) (by kernel_rfl) (by simp) (AllL.last rfl (by kernel_rfl) (fun K hK => ?_))
    rw [if_pos (by rfl)]
    refine kstM none rfl 40 _ _ rfl kb (2 + key * 7) (rC r.p r.a (.slice q n c)) rfl rfl s3 (info_rg _ _ _) (rg_one _ _ _ _ _) ?_
    change Blk (V3.setCells kb (2 + key * 7) (rC r.p r.a (.slice q n c)).toList) kb _ _ at s1
    change Chg kb V3 (V3.setCells kb (2 + key * 7) (rC r.p r.a (.slice q n c)).toList) at s2
    have hTk := hT2.keep hd2
    have hDk := hD2.keep hd2
    have hkk := hkW.keep hd2
    have imx : ∀ x ∈ os.set key ⟨r.p, r.a, .slice q n c, r.l⟩, Io V3 base x.v x.l := fun x hx => by
      rcases List.mem_or_eq_of_mem_set hx with h | h
      · exact (imk x h).keep hd2
      · subst h; exact hvW.keep hd2
    generalize V3.setCells kb (2 + key * 7) (rC r.p r.a (.slice q n c)).toList = V4 at *
    refine hK.out _ _ ?_
    clear hK K
    refine anyL_done (by kernel_rfl) ?_
    go_wp2_with fail
    go_ret
    exact ⟨by rw [HN.out]; rfl, v', fun _ => ⟨tp_chg hTk s2 (blk_ne hTk.blk hkk (by decide)) (blk_own hTk.own hkk (by decide)), hDk.chg s2 (blk_ne hDk hkk (by decide)), s1, by rw [List.length_set]; exact hKp.len, fun x hx => own_chgT (imx x hx) s2 (blk_own (imx x hx) hkk (by decide)), hKp.gd, hKp.gk⟩, fun h => absurd HN.out h, (mwm.below hd2).chg s2⟩
  · rw [hN]
    rw [show errV 5 = Err 5 from rfl]
    have HN : Hid (wrN S (frm (rowB (key : Int) r)) = 5) := hN
    have hD2 := hnz (by rw [hN]; omega)
    clear hN hz hnz
    show K _ _
    refine hK.out _ _ ?_
    clear hK K
    try go_frame
    refine anyL_ready (rs := [8]) (by kernel_rfl) (by simp) (AllL.free rfl (by kernel_rfl) (fun K hK => ?_))
    go_simp
    refine hK.out _ _ ?_
    clear hK K
    refine anyL_done (by kernel_rfl) ?_
    have E1 := ne5n
    go_wp2_with fail
    go_ret
    exact ⟨by rw [HN.out]; rfl, v', fun h => (by rw [HN.out] at h; omega), fun _ => ⟨hT2, hD2, hkW, hKp.len, imk, hKp.gd, hKp.gk⟩, mwm⟩
  · rw [hN]
    rw [show errV 6 = Err 6 from rfl]
    have HN : Hid (wrN S (frm (rowB (key : Int) r)) = 6) := hN
    have hD2 := hnz (by rw [hN]; omega)
    clear hN hz hnz
    show K _ _
    refine hK.out _ _ ?_
    clear hK K
    try go_frame
    refine anyL_ready (rs := [8]) (by kernel_rfl) (by simp) (AllL.free rfl (by kernel_rfl) (fun K hK => ?_))
    go_simp
    refine hK.out _ _ ?_
    clear hK K
    refine anyL_done (by kernel_rfl) ?_
    have E1 := ne6n
    go_wp2_with fail
    go_ret
    exact ⟨by rw [HN.out]; rfl, v', fun h => (by rw [HN.out] at h; omega), fun _ => ⟨hT2, hD2, hkW, hKp.len, imk, hKp.gd, hKp.gk⟩, mwm⟩
  · rw [hN]
    rw [show errV 7 = Err 7 from rfl]
    have HN : Hid (wrN S (frm (rowB (key : Int) r)) = 7) := hN
    have hD2 := hnz (by rw [hN]; omega)
    clear hN hz hnz
    show K _ _
    refine hK.out _ _ ?_
    clear hK K
    try go_frame
    refine anyL_ready (rs := [8]) (by kernel_rfl) (by simp) (AllL.free rfl (by kernel_rfl) (fun K hK => ?_))
    go_simp
    refine hK.out _ _ ?_
    clear hK K
    refine anyL_done (by kernel_rfl) ?_
    have E1 := ne70
    go_wp2_with fail
    go_ret
    exact ⟨by rw [HN.out]; rfl, v', fun h => (by rw [HN.out] at h; omega), fun _ => ⟨hT2, hD2, hkW, hKp.len, imk, hKp.gd, hKp.gk⟩, mwm⟩
end Go.Proofs.Ytlhamckpgijjmaa
