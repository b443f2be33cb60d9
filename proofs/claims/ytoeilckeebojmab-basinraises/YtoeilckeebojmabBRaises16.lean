/-
  Raising takes away just the cells ahead: estuarylaw16.BasinRaises returns true for every input; no condition.
-/
import Derived.Test.YtoeilckeebojmabPk54
import Derived.Test.YtoeilckeebojmabPk09
import Derived.ProofKit
import Derived.OpenShut
import Derived.ChangeOld
import Derived.Below
namespace Go.Proofs.Ytoeilckeebojmab.basinRaises
open Go.ChangeShapes Go.WideShapes Go.ChangeAt Go.RowKit Go.Joins
set_option linter.unusedVariables false
set_option maxRecDepth 100000

theorem big (q1 : Option Addr) (n c1 : Nat) (q2 : Option Addr) (m c2 : Nat) (w : World) (h : ¬ (n ≤ 100 ∧ m ≤ 100)) : Calls Try.prog 3 #[.slice q1 n c1, .slice q2 m c2] w fun e w' => e = .returned (.bool true) ∧ Below w.heap.size w w' := by
  by_cases hn : n ≤ 100
  · have h1 : ¬ (100 : Int) < (n : Int) := by omega
    have h2 : (100 : Int) < (m : Int) := by omega
    go_enter Try.func3, Try.ntmps3
    go_wp2_with (go_at_call 4; refine (alive16_any _).mono ?_; rintro e W1 ⟨rfl, hb⟩)
    go_ret
    exact ⟨rfl, hb⟩
  · have h1 : (100 : Int) < (n : Int) := by omega
    go_enter Try.func3, Try.ntmps3
    go_wp2_with (go_at_call 4; refine (alive16_any _).mono ?_; rintro e W1 ⟨rfl, hb⟩)
    go_ret
    exact ⟨rfl, hb⟩
theorem ok_new : newOK ((1 : Nat) : Int) [10] 1 1024 = true := by decide
set_option maxHeartbeats 4000000 in
theorem small (q1 : Option Addr) (n c1 : Nat) (q2 : Option Addr) (m c2 : Nat) (ops : List Op5) (rs : List (Int × Int)) (w : World) (hn : ops.length = n) (hm : rs.length = m) (h1 : ER E5 w (.slice q1 n c1) ops) (h2 : ER E2 w (.slice q2 m c2) rs) (hf : ∀ o ∈ ops, Fit5 o) (hr : ∀ p ∈ rs, J64 p.1 ∧ J64 p.2) (hn1 : n ≤ 100) (hm1 : m ≤ 100) :
    Calls Try.prog 3 #[.slice q1 n c1, .slice q2 m c2] w fun e w' => e = .returned (.bool true) ∧ Below w.heap.size w w' := by
  have HO : Hid (∀ V, Below w.heap.size w V → ER E5 V (.slice q1 n c1) ops) := fun V hV => h1.keep hV
  have HR : Hid (∀ V, Below w.heap.size w V → ER E2 V (.slice q2 m c2) rs) := fun V hV => h2.keep hV
  have HF : Hid (∀ o ∈ ops, Fit5 o) := hf
  have HJ : Hid (∀ p ∈ rs, J64 p.1 ∧ J64 p.2) := hr
  have HN : Hid (ops.length = n) := hn
  have HM : Hid (rs.length = m) := hm
  have l1 : ¬ (100 : Int) < (n : Int) := by omega
  have l2 : ¬ (100 : Int) < (m : Int) := by omega
  have e00 := ne00r
  clear h1 h2 hf hr hn hm
  go_enter Try.func3, Try.ntmps3
  go_upto_region 5 with (go_at_call 4; refine (alive16_any _).mono ?_; rintro e W1 ⟨rfl, a1⟩)
  obtain ⟨A, hE, hX, a2⟩ := blk1 W1 #[.int .i64 10] 3
  have hA := ab_trans a1 a2
  have HNw := banew_ok 1 _ [10] 1 1024 A (is_one hX) (fun r hr => by simp at hr; omega) ok_new
  go_upto_region 6 with (go_at_call 5; refine HNw.mono ?_; rintro e W3 ⟨⟨KK, rfl, hB3⟩, b3⟩)
  have hw3 := ab_trans hA b3
  have hB3' : Bq W3 w.heap.size KK ras0 := Bq.less hB3 hA.size
  clear hE hX HNw hB3 b3 a1 a2 hA l1 l2
  go_wp2_with fail
  go_loopw [39] (fun z V => ∃ (j : Nat) (S : Bsn) (T : List Tok), j ≤ n ∧ z = .int .i64 (j : Int) ∧ Bq V w.heap.size KK S ∧ RaI S T j ∧ Below w.heap.size w V) (fun z _ => n - (intOf z).toNat)
  case atStart => exact ⟨0, _, _, by omega, rfl, hB3', ra_new, hw3⟩
  case round =>
    clear hB3' hw3
    obtain ⟨j, S, T, hj, rfl, hB, hI, hV⟩ := hrel
    by_cases cj : j = n
    · have hJ0 := ra_done hI (show j ≤ 100 by omega)
      obtain ⟨A4, hE4, hX4, hw4⟩ := blk1 wr #[.int .i64 9223372036854775807, .int .i64 9223372036854775807] 35
      have hB4 := hB.keep hw4
      have hV4 := ab_trans hV hw4
      have hgt : ¬ bkB KK wr.heap.size := fun hk => absurd (hB.bks hk).2 (Nat.lt_irrefl _)
      have HGe : Hid (∀ k, bkB KK k → w.heap.size ≤ k) := fun k hk => (hB.bks hk).1
      have hgew : w.heap.size ≤ wr.heap.size := hV.size
      clear hB hI hV
      subst cj
      go_upto_region 17 with fail
      clear hE4 hw4
      generalize wr.heap.size = gt at *
      go_wp2_with fail
      go_loopw [63] (fun z V => ∃ (i : Nat) (S : Bsn) (b0 : Int × Int), i ≤ m ∧ z = .int .i64 (i : Int) ∧ Bq V w.heap.size KK S ∧ RaJ S b0 ∧ Blk V gt #[.int .i64 9223372036854775807, .int .i64 9223372036854775807] 35 ∧ Below w.heap.size w V) (fun z _ => m - (intOf z).toNat)
      case atStart => exact ⟨0, S, lstP, by omega, rfl, hB4, hJ0, hX4, hV4⟩
      case round =>
        clear hB4 hJ0 hX4 hV4
        obtain ⟨i, S, b0, hi, rfl, hB, hJ, hT, hV⟩ := hrel
        by_cases ci : i = m
        · subst ci
          go_wp2_with fail
          go_ret
          exact ⟨rfl, hV⟩
        · obtain ⟨p, hp⟩ : ∃ p, rs[i]? = some p := ⟨rs[i]'(by have := HM.out; omega), List.getElem?_eq_getElem (by have := HM.out; omega)⟩
          have hii : (i : Int) < (m : Int) := by omega
          obtain ⟨qz, capz, gz, offz, ez, hz1, hz2, hpz, hcz⟩ := (HR.out wr hV).at
          rw [HM.out] at ez hpz
          injection ez with ez1 ez2 ez3
          subst ez1
          subst ez3
          clear ez2
          obtain ⟨rfl, hgz⟩ := hpz (by omega)
          have w0 := hcz i p hp 0 _ rfl
          have w1 := hcz i p hp 1 _ rfl
          rw [Nat.add_zero, show E2.k = 2 from rfl] at w0
          rw [show E2.k = 2 from rfl] at w1
          have hpj := HJ.out p (List.mem_of_getElem? hp)
          clear hcz hpz hp hz1 hz2
          obtain ⟨A5, hE5, hX5, hw5⟩ := blk1 wr #[.int .i64 p.1, .int .i64 p.2] 35
          have hB5 := hB.keep hw5
          have hT5 := hT.keep hw5
          have hV5 := ab_trans hV hw5
          have hgp : ¬ bkB KK wr.heap.size := fun hk => absurd (hB.bks hk).2 (Nat.lt_irrefl _)
          have hgtl : gt < wr.heap.size := hT.lt
          have hgew2 : w.heap.size ≤ wr.heap.size := hV.size
          have t0 : A5.cell? ⟨gt, 0, none⟩ = some (.int .i64 9223372036854775807) := hT5.at rfl
          have t1 : A5.cell? ⟨gt, 1, none⟩ = some (.int .i64 9223372036854775807) := hT5.at rfl
          have hbl : 0 < S.ba.length := by rw [hJ.ba]; simp
          have hb0 : S.ba[0]? = some b0 := by rw [hJ.ba]; rfl
          have HLi : Calls Try.prog 8 #[bptr KK, .int .i64 0, Plc 9223372036854775807 9223372036854775807, .int .i64 2000] A5 fun e w' => ∃ v, e = .returned v ∧ EO EE 51 w' A5.heap.size v (lisE S 0 topP 2000) ∧ Below A5.heap.size A5 w' := balist_any 0 topP 2000 A5 hB5 hbl (by omega)
          have HBa := fun (V : World) (hb : Below A5.heap.size A5 V) => bbase_at 0 b0 V (hB5.keep hb) hb0
          have HT5 : Hid (Blk A5 gt #[.int .i64 9223372036854775807, .int .i64 9223372036854775807] 35) := hT5
          have HX5 : Hid (Blk A5 wr.heap.size #[.int .i64 p.1, .int .i64 p.2] 35) := hX5
          have HB5 : Hid (Bq A5 w.heap.size KK S) := hB5
          have hbk5 : ∀ k, bkB KK k → k < A5.heap.size := fun k hk => (hB5.bks hk).2
          clear hB hT hV hw5 hX5 hT5 hB5 hbl hb0
          go_upto_region 20 with (first
            | (go_at_call 8; refine HLi.mono ?_; rintro e W6 ⟨v6, rfl, hO6, b6⟩)
            | (go_at_call 9; refine (HBa _ b6).mono ?_; rintro e W7 ⟨rfl, b7⟩; obtain ⟨W8, hE8, hX8, b8⟩ := blk1 W7 #[.int .i64 b0.1, .int .i64 b0.2] 35))
          have b58 : Below A5.heap.size A5 W8 := ab_trans (ab_trans b6 b7) b8
          have hB8 := HB5.out.keep b58
          have HRa := baraise_ok 0 p W8 hB8 (by rw [hJ.ba]; simp) hpj
          have hg0 : ¬ bkB KK W7.heap.size := fun hk => absurd (hbk5 _ hk) (Nat.not_lt.2 (Nat.le_trans b6.size b7.size))
          obtain ⟨q6, c6, e6⟩ := hO6.form
          rw [lisE_len hJ] at e6
          have hS8 : Stay EE KK W8 v6 (lisE S 0 topP 2000) := stay_eo2 ((hO6.keep b7).keep b8) hbk5
          have hT8 := HT5.out.keep b58
          have hP8 := HX5.out.keep b58
          have hV8 : Below w.heap.size w W8 := ab_trans hV5 b58
          have p0 : W8.cell? ⟨wr.heap.size, 0, none⟩ = some (.int .i64 p.1) := hP8.at rfl
          have p1 : W8.cell? ⟨wr.heap.size, 1, none⟩ = some (.int .i64 p.2) := hP8.at rfl
          subst e6
          clear hE5 hE8 HLi HBa w0 w1 t0 t1 b6 b7 b8 hV5 hB8 hO6 HT5 HX5 HB5 b58
          generalize W7.heap.size = gb at *
          generalize wr.heap.size = gp at *
          have HJ' : Hid (RaJ (raiB S p) (mxP b0 p)) := rai_J hJ p
          have HWl : Hid ((wntE (lisE S 0 topP 2000) p).length = (raiB S p).ks.length) := wnt_len hJ p
          have HWs : Hid (EntQ (lisE (raiB S p) 0 topP 2000) (wntE (lisE S 0 topP 2000) p)) := wnt_same hJ p
          have HLl : Hid ((lisE S 0 topP 2000).length = S.ks.length) := lisE_len hJ
          have hnk : S.ks.length ≤ 100 := hJ.few
          have hnk2 : (raiB S p).ks.length ≤ 100 := HJ'.out.few
          have HRa2 : Calls Try.prog 10 #[bptr KK, .int .i64 0, Plc p.1 p.2] W8 fun e w' => e = .returned (.tuple #[.int .i64 ((S.ks.length : Int) - ((raiB S p).ks.length : Int)), .nilIface]) ∧ Bq w' w.heap.size KK (raiB S p) ∧ Frm (bkB KK) W8 w' := HRa
          clear hJ HRa
          generalize raiB S p = S' at *
          generalize lisE S 0 topP 2000 = L at *
          generalize S.ks.length = nk at *
          go_upto_region 21 with (go_at_call 10; refine HRa2.mono ?_; rintro e W9 ⟨rfl, hB9, hF9⟩)
          have hE9 : ER EE W9 (.slice q6 nk c6) L := hS8 W9 hF9
          have hT9 := hT8.frm hF9 hgt
          have hP9 := hP8.frm hF9 hgp
          have hC9 := hX8.frm hF9 hg0
          have hV9 : Below w.heap.size w W9 := hV8.trans (hF9.below hV8.size HGe.out)
          clear hS8 hT8 hP8 hX8 hV8 hF9 HRa2 p0 p1
          obtain ⟨Wx, hEx, hXx, hwx⟩ := blk1 W9 #[] 51
          have hO10 : EO EE 51 Wx W9.heap.size (.slice (some ⟨W9.heap.size, 0, none⟩) 0 0) (wntE (L.take 0) p) := by
            rw [show wntE (L.take 0) p = [] from rfl]
            exact eo_of (n := 0) (own_blkE (xs := []) hXx (Nat.le_refl _) rfl (by omega))
          go_wp2_with fail
          have HE9 : Hid (ER EE W9 (.slice q6 nk c6) L) := hE9
          have HT9 : Hid (Blk W9 gt #[.int .i64 9223372036854775807, .int .i64 9223372036854775807] 35) := hT9
          have HP9 : Hid (∀ V, Below W9.heap.size W9 V → V.cell? ⟨gp, 0, none⟩ = some (.int .i64 p.1) ∧ V.cell? ⟨gp, 1, none⟩ = some (.int .i64 p.2)) := fun V hb => ⟨(hP9.keep hb).at rfl, (hP9.keep hb).at rfl⟩
          have HC9 : Hid (∀ V, Below W9.heap.size W9 V → V.cell? ⟨gb, 0, none⟩ = some (.int .i64 b0.1) ∧ V.cell? ⟨gb, 1, none⟩ = some (.int .i64 b0.2)) := fun V hb => ⟨(hC9.keep hb).at rfl, (hC9.keep hb).at rfl⟩
          have HB9 : Hid (Bq W9 w.heap.size KK S') := hB9
          clear hEx hXx hE9 hT9 hP9 hC9 hB9 hgt hgp hg0
          go_loopw [16, 81] (fun x z V => ∃ k : Nat, k ≤ nk ∧ z = .int .i64 (k : Int) ∧ EO EE 51 V W9.heap.size x (wntE (L.take k) p) ∧ Below W9.heap.size W9 V) (fun _ z _ => nk - (intOf z).toNat)
          case atStart => exact ⟨0, by omega, rfl, hO10, hwx⟩
          case round =>
            clear hO10 hwx
            obtain ⟨k, hk, rfl, hOw, hVw⟩ := hrel
            by_cases ck : k = nk
            · have hOe : EO EE 51 wr W9.heap.size u16 (wntE L p) := by
                have := hOw
                rw [ck, List.take_of_length_le (by have := HLl.out; omega)] at this
                exact this
              obtain ⟨qn, cn, en⟩ := hOe.form
              rw [HWl.out] at en
              have HOe : Hid (EO EE 51 wr W9.heap.size u16 (wntE L p)) := hOe
              subst ck
              have hBw := HB9.out.keep hVw
              have hTw := HT9.out.keep hVw
              have hbl : 0 < S'.ba.length := by rw [HJ'.out.ba]; simp
              have hb0 : S'.ba[0]? = some (mxP b0 p) := by rw [HJ'.out.ba]; rfl
              have HLi2 : Calls Try.prog 8 #[bptr KK, .int .i64 0, Plc 9223372036854775807 9223372036854775807, .int .i64 2000] wr fun e w' => ∃ v, e = .returned v ∧ EO EE 51 w' wr.heap.size v (lisE S' 0 topP 2000) ∧ Below wr.heap.size wr w' := balist_any 0 topP 2000 wr hBw hbl (by omega)
              have t0 : wr.cell? ⟨gt, 0, none⟩ = some (.int .i64 9223372036854775807) := hTw.at rfl
              have t1 : wr.cell? ⟨gt, 1, none⟩ = some (.int .i64 9223372036854775807) := hTw.at rfl
              have HBa2 : Hid (∀ V, Below wr.heap.size wr V → Calls Try.prog 9 #[bptr KK, .int .i64 0] V fun e w' => e = .returned (Plc (mxP b0 p).1 (mxP b0 p).2) ∧ Below V.heap.size V w') := fun V hb => bbase_at 0 (mxP b0 p) V (hBw.keep hb) hb0
              have HBw : Hid (Bq wr w.heap.size KK S') := hBw
              have HTw : Hid (Blk wr gt #[.int .i64 9223372036854775807, .int .i64 9223372036854775807] 35) := hTw
              obtain ⟨m1, m2⟩ := mx_base b0 p
              have HM1 : Hid (pl (mxP b0 p).1 (mxP b0 p).2 b0.1 b0.2 = false) := m1
              have HM2 : Hid (pl (mxP b0 p).1 (mxP b0 p).2 p.1 p.2 = false) := m2
              clear hOe hOw hBw hTw hbl hb0 m1 m2
              subst en
              go_upto_region 29 with (go_at_call 8; refine HLi2.mono ?_; rintro e Wn ⟨vn, rfl, hOn, bn⟩)
              have hVn := ab_trans hVw bn
              have HOn : Hid (ER EE Wn vn (lisE S' 0 topP 2000)) := hOn.er
              have HOe2 : Hid (ER EE Wn (.slice qn S'.ks.length cn) (wntE L p)) := (HOe.out.keep bn).er
              have HSub : Hid (IntKind.i64.wrap ((k : Int) - (S'.ks.length : Int)) = (k : Int) - (S'.ks.length : Int)) := by show _ = _; rw [i64_wrap16]; unfold wrap64; omega
              clear HLi2 t0 t1 hOn HOe
              generalize S'.ks.length = nk' at *
              generalize mxP b0 p = b1 at *
              refine wp_region_held_drew (S := fun w' => Below Wn.heap.size Wn w') (by kernel_rfl) (ab_drew (Below.refl _ _)) (fun hHeld => ?_)
              refine takeH (i := 0) (some 98) rfl rfl (by kernel_rfl) (by kernel_rfl) (by kernel_rfl) (fun _ _ _ h => h) (by rfl) (fun w hSw => by (try dsimp only at hSw); go_simp; try rfl) hHeld ?_
              go_frame
              refine takeH (i := 1) (some 99) rfl rfl (by kernel_rfl) (by kernel_rfl) (by kernel_rfl) (fun _ _ _ h => h) (by rfl) (fun w hSw => by (try dsimp only at hSw); go_simp; try rfl) hHeld ?_
              go_frame
              refine takeH (i := 2) (some 100) rfl rfl (by kernel_rfl) (by kernel_rfl) (by kernel_rfl) (fun _ _ _ h => h) (by rfl) (fun w hSw => by (try dsimp only at hSw); go_simp; try rfl) hHeld ?_
              go_frame
              refine takeH (i := 3) (some 101) rfl rfl (by kernel_rfl) (by kernel_rfl) (by kernel_rfl) (fun _ _ _ h => h) (by rfl) (fun w hSw => by (try dsimp only at hSw); go_simp; try rfl) hHeld ?_
              go_frame
              refine takeH (i := 4) (some 102) rfl rfl (by kernel_rfl) (by kernel_rfl) (by kernel_rfl) (fun _ _ _ h => h) (by rfl) (fun w hSw => by (try dsimp only at hSw); go_simp; try rfl) hHeld ?_
              go_frame
              refine takeH (i := 5) (some 103) rfl rfl (by kernel_rfl) (by kernel_rfl) (by kernel_rfl) (fun _ _ _ h => h) (by rfl) (fun w hSw => by (try dsimp only at hSw); go_simp; try rfl) hHeld ?_
              go_frame
              refine takeH (i := 6) (some 104) rfl rfl (by kernel_rfl) (by kernel_rfl) (by kernel_rfl) (fun _ _ _ h => h) (by rfl) (fun w hSw => by (try dsimp only at hSw); go_simp; try rfl) hHeld ?_
              go_frame
              refine takeH (i := 7) (some 105) rfl rfl (by kernel_rfl) (by kernel_rfl) (by kernel_rfl) (fun _ _ _ h => h) (by rfl) (fun w hSw => by (try dsimp only at hSw); go_simp; try rfl) hHeld ?_
              go_frame
              refine takeH (i := 8) (some 106) rfl rfl (by kernel_rfl) (by kernel_rfl) (by kernel_rfl) (fun _ _ _ h => h) (by rfl) (fun w hSw => by (try dsimp only at hSw); (have q9 := HSub.out; go_simp; try rfl)) hHeld ?_
              go_frame
              refine takeH (i := 9) (some 107) rfl rfl (by kernel_rfl) (by kernel_rfl) (by kernel_rfl) (fun _ _ _ h => h) (by rfl) (fun w hSw => by (try dsimp only at hSw); (have q9 := HSub.out; go_simp; try rfl)) hHeld ?_
              go_frame
              refine takeH (i := 10) (some 108) rfl rfl (by kernel_rfl) (by kernel_rfl) (by kernel_rfl) (fun _ _ _ h => h) (by rfl) (fun w hSw => by (try dsimp only at hSw); go_simp; try rfl) hHeld ?_
              go_frame
              refine takeH (i := 11) (some 109) rfl rfl (by kernel_rfl) (by kernel_rfl) (by kernel_rfl) (fun _ _ _ h => h) (by rfl) (fun w hSw => by (try dsimp only at hSw); go_simp; try rfl) hHeld ?_
              go_frame
              refine takeH (i := 12) (some 110) rfl rfl (by kernel_rfl) (by kernel_rfl) (by kernel_rfl) (fun _ _ _ h => h) (by rfl) (fun w hSw => by (try dsimp only at hSw); go_simp; try rfl) hHeld ?_
              go_frame
              refine takeH (i := 13) (some 111) rfl rfl (by kernel_rfl) (by kernel_rfl) (by kernel_rfl) (fun _ _ _ h => h) (by rfl) (fun w hSw => by (try dsimp only at hSw); go_simp; try rfl) hHeld ?_
              go_frame
              refine wpAnyH_ready (rs := [14]) (by kernel_rfl) (by simp) (AllReadyH.cons rfl (fun K hK => ?_) AllReadyH.nil)
              go_simp
              refine (sents_yes _ _ _ _ _ (HOn.out.keep hHeld) (HOe2.out.keep hHeld) HWs.out).mono ?_
              rintro e Z1 ⟨rfl, bz1⟩
              show K _ _
              refine hK.out _ _ (ab_trans hHeld bz1) (fun hHeld => ?_)
              clear hK K bz1
              refine takeH (i := 15) (some 113) rfl rfl (by kernel_rfl) (by kernel_rfl) (by kernel_rfl) (fun _ _ _ h => h) (by rfl) (fun w hSw => by (try dsimp only at hSw); go_simp; try rfl) hHeld ?_
              go_frame
              refine takeH (i := 16) (some 114) rfl rfl (by kernel_rfl) (by kernel_rfl) (by kernel_rfl) (fun _ _ _ h => h) (by rfl) (fun w hSw => by (try dsimp only at hSw); go_simp; try rfl) hHeld ?_
              go_frame
              refine takeH (i := 17) (some 115) rfl rfl (by kernel_rfl) (by kernel_rfl) (by kernel_rfl) (fun _ _ _ h => h) (by rfl) (fun w hSw => by (try dsimp only at hSw); go_simp; try rfl) hHeld ?_
              go_frame
              refine takeH (i := 18) (some 116) rfl rfl (by kernel_rfl) (by kernel_rfl) (by kernel_rfl) (fun _ _ _ h => h) (by rfl) (fun w hSw => by (try dsimp only at hSw); go_simp; try rfl) hHeld ?_
              go_frame
              refine takeH (i := 20) (some 118) rfl rfl (by kernel_rfl) (by kernel_rfl) (by kernel_rfl) (fun _ _ _ h => h) (by rfl) (fun w hSw => by (try dsimp only at hSw); (obtain ⟨r0, r1⟩ := HC9.out _ (ab_trans hVn hSw); go_simp; try rfl)) hHeld ?_
              go_frame
              refine wpAnyH_ready (rs := [19]) (by kernel_rfl) (by simp) (AllReadyH.cons rfl (fun K hK => ?_) AllReadyH.nil)
              go_simp
              refine (HBa2.out _ (ab_trans bn hHeld)).mono ?_
              rintro e Z2 ⟨rfl, bz2⟩
              show K _ _
              refine hK.out _ _ (ab_trans hHeld bz2) (fun hHeld => ?_)
              clear hK K bz2
              refine wpAnyH_ready (rs := [21]) (by kernel_rfl) (by simp) (AllReadyH.cons rfl (fun K hK => ?_) AllReadyH.nil)
              go_simp
              refine (rpless_any _ _ _ _ _).mono ?_
              rintro e Z3 ⟨rfl, bz3⟩
              rw [HM1.out]
              show K _ _
              refine hK.out _ _ (ab_trans hHeld bz3) (fun hHeld => ?_)
              clear hK K bz3
              refine takeH (i := 22) (some 120) rfl rfl (by kernel_rfl) (by kernel_rfl) (by kernel_rfl) (fun _ _ _ h => h) (by rfl) (fun w hSw => by (try dsimp only at hSw); go_simp; try rfl) hHeld ?_
              go_frame
              refine takeH (i := 23) (some 121) rfl rfl (by kernel_rfl) (by kernel_rfl) (by kernel_rfl) (fun _ _ _ h => h) (by rfl) (fun w hSw => by (try dsimp only at hSw); go_simp; try rfl) hHeld ?_
              go_frame
              refine takeH (i := 24) (some 122) rfl rfl (by kernel_rfl) (by kernel_rfl) (by kernel_rfl) (fun _ _ _ h => h) (by rfl) (fun w hSw => by (try dsimp only at hSw); go_simp; try rfl) hHeld ?_
              go_frame
              refine takeH (i := 26) (some 124) rfl rfl (by kernel_rfl) (by kernel_rfl) (by kernel_rfl) (fun _ _ _ h => h) (by rfl) (fun w hSw => by (try dsimp only at hSw); (obtain ⟨r0, r1⟩ := HP9.out _ (ab_trans hVn hSw); go_simp; try rfl)) hHeld ?_
              go_frame
              refine wpAnyH_ready (rs := [25]) (by kernel_rfl) (by simp) (AllReadyH.cons rfl (fun K hK => ?_) AllReadyH.nil)
              go_simp
              refine (HBa2.out _ (ab_trans bn hHeld)).mono ?_
              rintro e Z4 ⟨rfl, bz4⟩
              show K _ _
              refine hK.out _ _ (ab_trans hHeld bz4) (fun hHeld => ?_)
              clear hK K bz4
              refine wpAnyH_ready (rs := [27]) (by kernel_rfl) (by simp) (AllReadyH.cons rfl (fun K hK => ?_) AllReadyH.nil)
              go_simp
              refine (rpless_any _ _ _ _ _).mono ?_
              rintro e Z5 ⟨rfl, bz5⟩
              rw [HM2.out]
              show K _ _
              refine hK.out _ _ (ab_trans hHeld bz5) (fun hHeld => ?_)
              clear hK K bz5
              refine takeH (i := 28) (some 126) rfl rfl (by kernel_rfl) (by kernel_rfl) (by kernel_rfl) (fun _ _ _ h => h) (by rfl) (fun w hSw => by (try dsimp only at hSw); go_simp; try rfl) hHeld ?_
              go_frame
              refine wpAnyH_done (by kernel_rfl) ?_ _
              have hBe := HBw.out.keep (ab_trans bn hHeld)
              have hTe := HTw.out.keep (ab_trans bn hHeld)
              have hVe : Below w.heap.size w _ := hV9.trans ((ab_trans hVn hHeld).mono hV9.size)
              clear hHeld HOn HOe2 HC9 HP9 HBa2 HM1 HM2 HSub
              go_wp2_with fail
              go_roundw
              case rel => exact ⟨i + 1, S', b1, by omega, by go_num, hBe, HJ'.out, hTe, hVe⟩
              case measure => simp [intOf]; omega
            · obtain ⟨x, hx⟩ : ∃ x, L[k]? = some x := ⟨L[k]'(by have := HLl.out; omega), List.getElem?_eq_getElem (by have := HLl.out; omega)⟩
              have hki : (k : Int) < (nk : Int) := by omega
              obtain ⟨gw, ow, eqw, hgw, hrw⟩ := er_range (HE9.out.keep hVw) (by omega)
              have hr0 := hrw k x hx
              have HSn := wnt_snoc p hx
              clear hrw hx
              subst eqw
              go_upto_region 25 with (first
                | (refine ld_EE rfl rfl hr0 rfl ?_)
                | (refine al_ent rfl rfl ?_; intro Wb eb hXb bb; clear eb)
                | (refine st_EE rfl rfl hXb rfl rfl ?_; intro Wc hXc Cc; go_frame))
              have bwc : Below wr.heap.size wr Wc := ab_chg bb Cc (Nat.le_refl _)
              have hVc := ab_trans hVw bwc
              obtain ⟨p0, p1⟩ := HP9.out Wc hVc
              have x0 : Wc.cell? ⟨wr.heap.size, 0, none⟩ = some (.int .i64 x.1.1) := hXc.at rfl
              have x1 : Wc.cell? ⟨wr.heap.size, 1, none⟩ = some (.int .i64 x.1.2) := hXc.at rfl
              have HOw : Hid (EO EE 51 Wc W9.heap.size u16 (wntE (L.take k) p)) := hOw.keep bwc
              have HSn' : Hid (wntE (L.take (k + 1)) p = wntE (L.take k) p ++ (if pl x.1.1 x.1.2 p.1 p.2 = true then [] else [x])) := HSn
              have hwl : (wntE (L.take k) p).length ≤ 100 := Nat.le_trans (List.length_filter_le _ _) (Nat.le_trans (List.length_take_le k L) (by omega))
              have HXc : Hid (Blk Wc wr.heap.size (entA x) 51) := hXc
              clear HSn hXb bb Cc hOw bwc hVw hr0 hXc
              generalize wr.heap.size = gx at *
              cases hpl : pl x.1.1 x.1.2 p.1 p.2
              · have HS2 : Hid (wntE (L.take (k + 1)) p = wntE (L.take k) p ++ [x]) := by have := HSn'.out; rw [hpl, if_neg (by simp)] at this; exact this
                clear HSn'
                go_upto_region 26 with (go_at_call 11; refine (rpless_any _ _ _ _ _).mono ?_; rintro e Wl ⟨rfl, bl⟩; rw [hpl])
                have hrb : Wl.rangeAt gx 0 (entA x).toList := blk_range (HXc.out.keep bl)
                have hVl := ab_trans hVc bl
                clear p0 p1 x0 x1 hpl
                go_wp2_with (first
                  | (refine ld_EE rfl rfl hrb rfl ?_; go_frame)
                  | (refine bs_EE rfl rfl x (by simp only [List.map_toArray, List.map_cons, List.map_nil]; rfl) ?_; intro Wm hOm bm; have hOv := (HOw.out.keep bl).keep bm; have hVm := ab_trans hVl bm; go_frame)
                  | (at_builtin; refine app_e (E := EE) W9 rfl rfl Try.underlying37 infoEntB (by show (entA zEnt).size = 76; exact entA_size _) rfl hOv rfl hOm.er (by simp only [List.length_cons, List.length_nil]; omega) (by simp only [List.length_cons, List.length_nil]; omega) hVm ?_; intro v5 W5 hE5 hw5 hg5; go_frame))
                go_roundw
                case rel => exact ⟨k + 1, by omega, by go_num, by rw [HS2.out]; exact hE5, hw5⟩
                case measure => simp [intOf]; omega
              · have HS2 : Hid (wntE (L.take (k + 1)) p = wntE (L.take k) p) := by have := HSn'.out; rw [hpl, if_pos rfl, List.append_nil] at this; exact this
                clear HSn'
                go_wp2_with (go_at_call 11; refine (rpless_any _ _ _ _ _).mono ?_; rintro e Wl ⟨rfl, bl⟩; rw [hpl])
                go_roundw
                case rel => exact ⟨k + 1, by omega, by go_num, by rw [HS2.out]; exact HOw.out.keep bl, ab_trans hVc bl⟩
                case measure => simp [intOf]; omega
    · obtain ⟨o, ho⟩ : ∃ o, ops[j]? = some o := ⟨ops[j]'(by have := HN.out; omega), List.getElem?_eq_getElem (by have := HN.out; omega)⟩
      have hji : (j : Int) < (n : Int) := by omega
      obtain ⟨qz, capz, gz, offz, ez, hz1, hz2, hpz, hcz⟩ := (HO.out wr hV).at
      rw [HN.out] at ez hpz
      injection ez with ez1 ez2 ez3
      subst ez1
      subst ez3
      clear ez2
      obtain ⟨rfl, hgz⟩ := hpz (by omega)
      have w0 := hcz j o ho 0 _ rfl
      have w1 := hcz j o ho 1 _ rfl
      have w2 := hcz j o ho 2 _ rfl
      have w3 := hcz j o ho 3 _ rfl
      have w4 := hcz j o ho 4 _ rfl
      rw [Nat.add_zero, show E5.k = 5 from rfl] at w0
      rw [show E5.k = 5 from rfl] at w1 w2 w3 w4
      have hof := HF.out o (List.mem_of_getElem? ho)
      clear hcz hpz ho hz1 hz2
      obtain ⟨A7, hE7, hX7, hw7⟩ := blk1 wr #[.int .i64 o.s, .int .i64 o.k, .int .i64 o.t, .int .i64 o.y, .int .i64 o.v] 32
      have hB7 := hB.keep hw7
      have hV7 := ab_trans hV hw7
      have hbk : ∀ k, bkB KK k → k < A7.heap.size := fun k hk => (hB7.bks hk).2
      have hgb : ¬ bkB KK wr.heap.size := fun hk => absurd (hB.bks hk).2 (Nat.lt_irrefl _)
      have hge : w.heap.size ≤ wr.heap.size := hV.size
      clear hB hV
      have g0 : A7.cell? ⟨wr.heap.size, 0, none⟩ = some (.int .i64 o.s) := hX7.at rfl
      have f0 : A7.frozen? ⟨wr.heap.size, 0, none⟩ = false := hX7.frozen 0
      have hX8 : Blk (A7.setCell ⟨wr.heap.size, 0, none⟩ (.int .i64 ((j : Int) + 1))) wr.heap.size #[.int .i64 ((j : Int) + 1), .int .i64 o.k, .int .i64 o.t, .int .i64 o.y, .int .i64 o.v] 32 := hX7.set 0 _
      have C8 : Chg wr.heap.size A7 (A7.setCell ⟨wr.heap.size, 0, none⟩ (.int .i64 ((j : Int) + 1))) := chg_set _ _ _ _
      have g1 : (A7.setCell ⟨wr.heap.size, 0, none⟩ (.int .i64 ((j : Int) + 1))).cell? ⟨wr.heap.size, 1, none⟩ = some (.int .i64 o.k) := hX8.at rfl
      have f1 : (A7.setCell ⟨wr.heap.size, 0, none⟩ (.int .i64 ((j : Int) + 1))).frozen? ⟨wr.heap.size, 1, none⟩ = false := hX8.frozen 1
      have hX9 : Blk ((A7.setCell ⟨wr.heap.size, 0, none⟩ (.int .i64 ((j : Int) + 1))).setCell ⟨wr.heap.size, 1, none⟩ (.int .i64 1)) wr.heap.size (opA (raO j o)) 32 := hX8.set 1 _
      have C9 : Chg wr.heap.size (A7.setCell ⟨wr.heap.size, 0, none⟩ (.int .i64 ((j : Int) + 1))) ((A7.setCell ⟨wr.heap.size, 0, none⟩ (.int .i64 ((j : Int) + 1))).setCell ⟨wr.heap.size, 1, none⟩ (.int .i64 1)) := chg_set _ _ _ _
      have HX9 : Hid (Blk ((A7.setCell ⟨wr.heap.size, 0, none⟩ (.int .i64 ((j : Int) + 1))).setCell ⟨wr.heap.size, 1, none⟩ (.int .i64 1)) wr.heap.size (opA (raO j o)) 32) := hX9
      have HB9 : Hid (Bq ((A7.setCell ⟨wr.heap.size, 0, none⟩ (.int .i64 ((j : Int) + 1))).setCell ⟨wr.heap.size, 1, none⟩ (.int .i64 1)) w.heap.size KK S) :=
        (hB7.frm (frm_chg (X := fun k => k = wr.heap.size) C8 rfl) (fun k hk hi => by rw [hk] at hi; exact absurd (hX7.kindR.uniq hi) (by decide)) (fun hk => by have := hB7.blk.kindR; rw [hk] at this; exact absurd (this.uniq hX7.kindR) (by decide)) (fun k hk e => hgb (e ▸ hk))).frm (frm_chg (X := fun k => k = wr.heap.size) C9 rfl) (fun k hk hi => by rw [hk] at hi; exact absurd (hX8.kindR.uniq hi) (by decide)) (fun hk => by
          have h9 : Blk (A7.setCell ⟨wr.heap.size, 0, none⟩ (.int .i64 ((j : Int) + 1))) KK.b _ 72 := hB7.blk.chg C8 (fun e => by have := hB7.blk.kindR; rw [e] at this; exact absurd (this.uniq hX7.kindR) (by decide))
          have := h9.kindR; rw [hk] at this; exact absurd (this.uniq hX8.kindR) (by decide)) (fun k hk e => hgb (e ▸ hk))
      have HV9 : Hid (Below w.heap.size w ((A7.setCell ⟨wr.heap.size, 0, none⟩ (.int .i64 ((j : Int) + 1))).setCell ⟨wr.heap.size, 1, none⟩ (.int .i64 1))) := ab_chg (ab_chg hV7 C8 hge) C9 hge
      clear hX8 hX9 C8 C9 hB7 hV7
      go_upto_region 12 with fail
      clear g0 f0 g1 f1 hE7 w0 w1 w2 w3 w4 hX7 hw7
      generalize (A7.setCell ⟨wr.heap.size, 0, none⟩ (.int .i64 ((j : Int) + 1))).setCell ⟨wr.heap.size, 1, none⟩ (.int .i64 1) = V9 at *
      generalize wr.heap.size = gob at *
      have hbk : ∀ k, bkB KK k → k < V9.heap.size := fun k hk => (HB9.out.bks hk).2
      have HY : Hid (∀ V, Below V9.heap.size V9 V → V.cell? ⟨gob, 0, none⟩ = some (.int .i64 ((j : Int) + 1)) ∧ V.cell? ⟨gob, 1, none⟩ = some (.int .i64 1) ∧ V.cell? ⟨gob, 2, none⟩ = some (.int .i64 o.t) ∧ V.cell? ⟨gob, 3, none⟩ = some (.int .i64 o.y) ∧ V.cell? ⟨gob, 4, none⟩ = some (.int .i64 o.v)) := fun V hb => ⟨(HX9.out.keep hb).at rfl, (HX9.out.keep hb).at rfl, (HX9.out.keep hb).at rfl, (HX9.out.keep hb).at rfl, (HX9.out.keep hb).at rfl⟩
      have HFd : Hid (∀ (V : World) (vc vo : Value), Below V9.heap.size V9 V → Stay E2 KK V vc [lstP] → Stay E5 KK V vo [raO j o] → Calls Try.prog 6 #[bptr KK, .int .i64 0, .int .i64 ((j : Int) + 1), .int .i64 ((j : Int) + 1), vc, vo] V fun e w' => ∃ S' T', e = .returned .nilIface ∧ Bq w' w.heap.size KK S' ∧ RaI S' T' (j + 1) ∧ Frm (bkB KK) V w') := fun V vc vo hb hc ho => ra_feed V (HB9.out.keep hb) hI (by omega) hof vc vo hc ho
      have HWr : Hid (IntKind.i64.wrap ((j : Int) + 1) = (j : Int) + 1) := by show _ = _; rw [i64_wrap16]; unfold wrap64; omega
      have HBk : Hid (∀ k, bkB KK k → k < V9.heap.size) := hbk
      have HGe : Hid (∀ k, bkB KK k → w.heap.size ≤ k) := fun k hk => (HB9.out.bks hk).1
      clear hI hof hgb hge hbk HX9 HB9
      refine region_L 9 (S := fun w' => Below V9.heap.size V9 w') (by kernel_rfl) (ab_drew (Below.refl _ _)) (fun hHeld => ?_)
      refine takeP (i := 0) (some 48) (by rfl) rfl rfl (by kernel_rfl) (by kernel_rfl) (by kernel_rfl) (fun _ _ _ h => h) (by rfl) (fun w => by go_simp; try rfl) hHeld ?_
      go_frame
      refine takeP (i := 1) (some 49) (by rfl) rfl rfl (by kernel_rfl) (by kernel_rfl) (by kernel_rfl) (fun _ _ _ h => h) (by rfl) (fun w => by go_simp; try rfl) hHeld ?_
      go_frame
      refine takeP (i := 2) (some 50) (by rfl) rfl rfl (by kernel_rfl) (by kernel_rfl) (by kernel_rfl) (fun _ _ _ h => h) (by rfl) (fun w => by go_simp; try rfl) hHeld ?_
      go_frame
      refine takeP (i := 3) (some 51) (by rfl) rfl rfl (by kernel_rfl) (by kernel_rfl) (by kernel_rfl) (fun _ _ _ h => h) (by rfl) (fun w => by go_simp; try rfl) hHeld ?_
      go_frame
      refine takeP (i := 4) (some 52) (by rfl) rfl rfl (by kernel_rfl) (by kernel_rfl) (by kernel_rfl) (fun _ _ _ h => h) (by rfl) (fun w => by go_simp; try rfl) hHeld ?_
      go_frame
      refine takeL (i := 7) [8, 9] (some 55) (by rfl) rfl rfl (by kernel_rfl) (by kernel_rfl) (by kernel_rfl) (by kernel_rfl) (fun _ _ _ h => h) (by rfl) (fun w hSw => by (try dsimp only at hSw); (obtain ⟨r0, r1, r2, r3, r4⟩ := HY.out _ hSw; go_simp; try rfl)) hHeld ?_
      go_frame
      refine anyL_ready (rs := [5, 8]) (by kernel_rfl) (by simp) (AllL.cons rfl (fun K hK => ?_) (AllL.cons rfl (fun K hK => ?_) AllL.nil))
      · go_simp
        refine (rleast_any _).mono ?_
        rintro e Vl ⟨rfl, bl⟩
        show K _ _
        refine hK.out _ _ (ab_trans hHeld bl) (fun hHeld => ?_)
        clear hK K
        refine anyL_ready (rs := [6, 8]) (by kernel_rfl) (by simp) (AllL.cons rfl (fun K hK => ?_) (AllL.cons rfl (fun K hK => ?_) AllL.nil))
        · rw [if_pos (by rfl)]
          refine bsEW (E := E2) (some 54) rfl rfl lstP (by simp only [List.map_toArray, List.map_cons, List.map_nil]; rfl) (bs_pl1 lstP) fun W6 hO6 b6 => ?_
          have hs6 := hHeld.size
          refine hK.out _ _ (ab_trans hHeld b6) (fun hHeld => ?_)
          clear hK K
          go_frame
          refine anyL_ready (rs := [8]) (by kernel_rfl) (by simp) (AllL.cons rfl (fun K hK => ?_) AllL.nil)
          · rw [if_pos (by rfl)]
            refine bsEW (E := E5) (some 56) rfl rfl (raO j o) (by simp only [List.map_toArray, List.map_cons, List.map_nil]; rfl) (bs_op1 (raO j o)) fun W8 hO8 b8 => ?_
            have hO6 := hO6.keep b8
            have hs8 := hHeld.size
            refine hK.out _ _ (ab_trans hHeld b8) (fun hHeld => ?_)
            clear hK K
            go_frame
            have hC := stay_eo (E := E2) hO6 (fun k hk => Nat.lt_of_lt_of_le (HBk.out k hk) hs6)
            have hP := stay_eo (E := E5) hO8 (fun k hk => Nat.lt_of_lt_of_le (HBk.out k hk) hs8)
            have HF9 := HFd.out _ _ _ hHeld hC hP
            clear hC hP hO6 hO8
            refine anyL_ready (rs := [9]) (by kernel_rfl) (by simp) (AllL.last rfl (by kernel_rfl) (fun K hK => ?_))
            go_simp
            rw [HWr.out]
            refine HF9.mono ?_
            rintro e Wf ⟨S2, T2, rfl, hB2, hI2, hF2⟩
            show K _ _
            have hVf : Below w.heap.size w Wf := (HV9.out.trans (hHeld.mono HV9.out.size)).trans (hF2.below (Nat.le_trans HV9.out.size hHeld.size) HGe.out)
            refine hK.out _ _ ?_
            clear hK K
            try go_frame
            refine anyL_ready (rs := [10]) (by kernel_rfl) (by simp) (AllL.free rfl (by kernel_rfl) (fun K hK => ?_))
            go_simp
            refine hK.out _ _ ?_
            clear hK K
            try go_frame
            refine anyL_done (by kernel_rfl) ?_
            clear hF2 HF9 HFd HY HV9 hHeld
            go_wp2_with fail
            go_roundw
            case rel => exact ⟨j + 1, S2, T2, by omega, by go_num, hB2, hI2, hVf⟩
            case measure => simp [intOf]; omega
        · rw [if_pos (by rfl)]
          refine bsEW (E := E5) (some 56) rfl rfl (raO j o) (by simp only [List.map_toArray, List.map_cons, List.map_nil]; rfl) (bs_op1 (raO j o)) fun W8 hO8 b8 => ?_
          have hs8 := hHeld.size
          refine hK.out _ _ (ab_trans hHeld b8) (fun hHeld => ?_)
          clear hK K
          go_frame
          refine anyL_ready (rs := [6]) (by kernel_rfl) (by simp) (AllL.cons rfl (fun K hK => ?_) AllL.nil)
          · rw [if_pos (by rfl)]
            refine bsEW (E := E2) (some 54) rfl rfl lstP (by simp only [List.map_toArray, List.map_cons, List.map_nil]; rfl) (bs_pl1 lstP) fun W6 hO6 b6 => ?_
            have hO8 := hO8.keep b6
            have hs6 := hHeld.size
            refine hK.out _ _ (ab_trans hHeld b6) (fun hHeld => ?_)
            clear hK K
            go_frame
            have hC := stay_eo (E := E2) hO6 (fun k hk => Nat.lt_of_lt_of_le (HBk.out k hk) hs6)
            have hP := stay_eo (E := E5) hO8 (fun k hk => Nat.lt_of_lt_of_le (HBk.out k hk) hs8)
            have HF9 := HFd.out _ _ _ hHeld hC hP
            clear hC hP hO6 hO8
            refine anyL_ready (rs := [9]) (by kernel_rfl) (by simp) (AllL.last rfl (by kernel_rfl) (fun K hK => ?_))
            go_simp
            rw [HWr.out]
            refine HF9.mono ?_
            rintro e Wf ⟨S2, T2, rfl, hB2, hI2, hF2⟩
            show K _ _
            have hVf : Below w.heap.size w Wf := (HV9.out.trans (hHeld.mono HV9.out.size)).trans (hF2.below (Nat.le_trans HV9.out.size hHeld.size) HGe.out)
            refine hK.out _ _ ?_
            clear hK K
            try go_frame
            refine anyL_ready (rs := [10]) (by kernel_rfl) (by simp) (AllL.free rfl (by kernel_rfl) (fun K hK => ?_))
            go_simp
            refine hK.out _ _ ?_
            clear hK K
            try go_frame
            refine anyL_done (by kernel_rfl) ?_
            clear hF2 HF9 HFd HY HV9 hHeld
            go_wp2_with fail
            go_roundw
            case rel => exact ⟨j + 1, S2, T2, by omega, by go_num, hB2, hI2, hVf⟩
            case measure => simp [intOf]; omega
      · rw [if_pos (by rfl)]
        refine bsEW (E := E5) (some 56) rfl rfl (raO j o) (by simp only [List.map_toArray, List.map_cons, List.map_nil]; rfl) (bs_op1 (raO j o)) fun W8 hO8 b8 => ?_
        have hs8 := hHeld.size
        refine hK.out _ _ (ab_trans hHeld b8) (fun hHeld => ?_)
        clear hK K
        go_frame
        refine anyL_ready (rs := [5]) (by kernel_rfl) (by simp) (AllL.cons rfl (fun K hK => ?_) AllL.nil)
        · go_simp
          refine (rleast_any _).mono ?_
          rintro e Vl ⟨rfl, bl⟩
          have hO8 := hO8.keep bl
          show K _ _
          refine hK.out _ _ (ab_trans hHeld bl) (fun hHeld => ?_)
          clear hK K
          refine anyL_ready (rs := [6]) (by kernel_rfl) (by simp) (AllL.cons rfl (fun K hK => ?_) AllL.nil)
          · rw [if_pos (by rfl)]
            refine bsEW (E := E2) (some 54) rfl rfl lstP (by simp only [List.map_toArray, List.map_cons, List.map_nil]; rfl) (bs_pl1 lstP) fun W6 hO6 b6 => ?_
            have hO8 := hO8.keep b6
            have hs6 := hHeld.size
            refine hK.out _ _ (ab_trans hHeld b6) (fun hHeld => ?_)
            clear hK K
            go_frame
            have hC := stay_eo (E := E2) hO6 (fun k hk => Nat.lt_of_lt_of_le (HBk.out k hk) hs6)
            have hP := stay_eo (E := E5) hO8 (fun k hk => Nat.lt_of_lt_of_le (HBk.out k hk) hs8)
            have HF9 := HFd.out _ _ _ hHeld hC hP
            clear hC hP hO6 hO8
            refine anyL_ready (rs := [9]) (by kernel_rfl) (by simp) (AllL.last rfl (by kernel_rfl) (fun K hK => ?_))
            go_simp
            rw [HWr.out]
            refine HF9.mono ?_
            rintro e Wf ⟨S2, T2, rfl, hB2, hI2, hF2⟩
            show K _ _
            have hVf : Below w.heap.size w Wf := (HV9.out.trans (hHeld.mono HV9.out.size)).trans (hF2.below (Nat.le_trans HV9.out.size hHeld.size) HGe.out)
            refine hK.out _ _ ?_
            clear hK K
            try go_frame
            refine anyL_ready (rs := [10]) (by kernel_rfl) (by simp) (AllL.free rfl (by kernel_rfl) (fun K hK => ?_))
            go_simp
            refine hK.out _ _ ?_
            clear hK K
            try go_frame
            refine anyL_done (by kernel_rfl) ?_
            clear hF2 HF9 HFd HY HV9 hHeld
            go_wp2_with fail
            go_roundw
            case rel => exact ⟨j + 1, S2, T2, by omega, by go_num, hB2, hI2, hVf⟩
            case measure => simp [intOf]; omega

theorem walk {W : World} (v1 : Value) (l1 : List Op5) (S1 : ER E5 W v1 l1) (B1 : ∀ o ∈ l1, Fit5 o) (v2 : Value) (l2 : List (Int × Int)) (S2 : ER E2 W v2 l2) (B2 : ∀ p ∈ l2, J64 p.1 ∧ J64 p.2) :
    Calls Try.prog 3 #[v1, v2] W fun e w' => e = .returned (.bool true) ∧ Below W.heap.size W w' := by
  obtain ⟨q1, c1, rfl⟩ := S1.form
  obtain ⟨q2, c2, rfl⟩ := S2.form
  by_cases h : l1.length ≤ 100 ∧ l2.length ≤ 100
  · exact small q1 _ c1 q2 _ c2 l1 l2 W rfl rfl S1 S2 B1 B2 h.1 h.2
  · exact big q1 _ c1 q2 _ c2 W h

theorem own : ownKnob Try.prog.godebug = none := by kernel_rfl
theorem laidOut : laidOutB Try.prog = true := by kernel_rfl

set_option maxRecDepth 100000 in
theorem lifted (os : Os) (started : os.Started) (H : Type) (enc : TypeId × Value → H) :
    ReturnsInHanded {} Try.checked os 3 .any (Rows.basinRaisesSpec.pre6 enc Try.prog Try.f3 Rows.basinRaisesRow.domain false) (Rows.basinRaisesSpec.post enc Try.prog Try.f3 false true false false) := by
  refine returnsInHanded_of_change (C := Try.checked) own started (by kernel_rfl) Try.func3
    (ChangeSpec.witness6 (enc := enc) (C := Try.checked) false ⟨#[], #[.slice none 0 0, .slice none 0 0], []⟩ 8 (by kernel_rfl) (by kernel_rfl) (by kernel_rfl) (by kernel_rfl)) ?_
  intro W base args ds gs before hval0 hW hcnd _
  have hval : ∀ (j : Nat) t v, Try.f3.params[j]? = some t → args[j]? = some v → Value.okWide Try.prog W .any base t v := hval0
  have hW' := hW
  obtain ⟨p, q, hA0, hV, rfl, hfz, hnd⟩ := hW
  have hA : DataW.TrodAll enc Try.prog W 0 (fun _ => true) true Try.f3.params.toList args.toList ds p := hA0
  rw [Try.params3] at hA hval
  obtain ⟨v0, vs0, d0, ds0, p0, q0, hargs, rfl, rfl, h0, r0⟩ := trodAll_cons hA
  obtain ⟨v1, vs1, d1, ds1, p1, q1, rfl, rfl, rfl, h1, r1⟩ := trodAll_cons r0
  obtain ⟨rfl, rfl, rfl⟩ := trodAll_nil r1
  obtain rfl : args = #[v0, v1] := by cases args; simp_all
  obtain ⟨rfl, rfl⟩ := trodVars_none hV
  have k0 := h0
  have lt0 : ∀ x ∈ p0, x.block < W.heap.size := by obtain ⟨m, hm⟩ := k0; exact DataW.trod_lt m _ _ _ hm
  have k1 := h1
  have lt1 : ∀ x ∈ p1, x.block < W.heap.size := by obtain ⟨m, hm⟩ := k1; exact DataW.trod_lt m _ _ _ hm
  obtain ⟨l0_, S0_, B0_⟩ := open_ops16 (hval 0 22 v0 rfl rfl) h0
  obtain ⟨l1_, S1_, B1_⟩ := open_places16 (hval 1 23 v1 rfl rfl) h1
  clear hA0 hval0
  refine (walk v0 l0_ S0_ B0_ v1 l1_ S1_ B1_).mono fun e W' ⟨he, bel⟩ => ?_
  subst he
  exact ⟨_, rfl, _, _, _, [], _, [], hW', trodAll_mk1 (shut_bool Try.underlying4 _), (trodAll_cons_mk (Below.trod laidOut (by kernel_rfl) (of_decide_eq_true (by kernel_rfl)) k0 bel lt0) (trodAll_cons_mk (Below.trod laidOut (by kernel_rfl) (of_decide_eq_true (by kernel_rfl)) k1 bel lt1) trodAll_mk0)), rfl, bel.frame _, fun h => by cases h⟩

theorem over : Rows.basinRaisesRow.holds Try.pinned (OpenSpec.ofChange Rows.basinRaisesSpec) :=
  OpenClaim.holds_of_wide 3 Try.f3 rfl rfl rfl rfl rfl rfl rfl ⟨rfl, rfl, rfl, rfl, rfl⟩ rfl rfl rfl rfl rfl (by kernel_rfl) Try.func3 (by kernel_rfl)
    (of_decide_eq_true (by kernel_rfl)) (by unfold Func.isWrapper; first | (rw [if_pos (by decide +kernel)]; kernel_rfl) | (rw [if_neg (by decide +kernel)]; exact ⟨rfl, rfl⟩))
    (fun os started H enc _ => lifted os started H enc)

theorem proved : Rows.BasinRaisesSaid := over
end Go.Proofs.Ytoeilckeebojmab.basinRaises
namespace Go.Proofs.Ytoeilckeebojmab
theorem basinRaises_holds : Rows.BasinRaisesSaid := basinRaises.proved
#print axioms basinRaises_holds
end Go.Proofs.Ytoeilckeebojmab
