/-
  The document's way of joining cells: the walk of estuaryref02.Join.
-/
import Derived.Test.YtnppdachbfcfkaaRJoinP
import Derived.Test.YtnppdachbfcfkaaWalk10
import Derived.Deep.RegionHeld3
import Derived.Deep.CutRange
namespace Go.Proofs.Ytnppdachbfcfkaa
open Go.RowKit Go.Shelf
set_option linter.unusedVariables false

set_option maxRecDepth 100000 in
set_option maxHeartbeats 2000000 in
theorem rjoin_any (q : Option Addr) (g off n cap : Nat) (l : List (Nat → Int)) (w : World) (hn : l.length = n) (hb : n ≤ 2000) (hp : 0 < n → q = some ⟨g, off, none⟩) (hg : 0 < n → g < w.heap.size) (hr : CRow w g off l) (hwf : ∀ c ∈ l, Wf c) :
    Calls Try.prog 14 #[.slice q n cap] w fun e w' => e = .returned (.agg (CA (joinF l))) ∧ Below w.heap.size w w' := by
  have zz := zero_cell
  go_enter Try.func14, Try.ntmps14
  go_upto_region 1 with (refine al_cell rfl rfl ?_; intro W1 e1 hR1 b1; clear e1)
  go_upto_region 2 with (first
    | (refine bd_zero rfl rfl ?_)
    | (refine al_cell rfl rfl ?_; intro W2 e2 hX2 b2; clear e2)
    | (refine st_cell rfl rfl hX2 rfl rfl ?_; intro W3 hX3 C3))
  have hR3 := (hR1.keep b2).chg C3 (by have := hR1.lt; omega)
  have hw3 := ab_chg (ab_trans b1 b2) C3 b1.size
  have hXR : w.heap.size < W1.heap.size := hR1.lt
  clear hR1 b1 b2 C3 hX2 zz
  generalize W1.heap.size = X at *
  go_wp2_with fail
  go_loopw [4] (fun i wr => ∃ k : Nat, k ≤ n ∧ i = .int .i64 (k : Int) ∧ Blk wr X (CA ((joinO (l.take k)).getD zc)) 31 ∧ Blk wr w.heap.size (CA zc) 31 ∧ Below w.heap.size w wr) (fun i _ => n - (intOf i).toNat)
  case atStart => exact ⟨0, by omega, rfl, hX3, hR3, hw3⟩
  case round =>
    clear hX3 hR3 hw3
    obtain ⟨k, hk, rfl, hX, hR, hw⟩ := hrel
    by_cases c : k = n
    · subst c
      have HJ : Hid ((joinO (l.take k)).getD zc = joinF l) := by show _ = _; rw [List.take_of_length_le (by omega)]; rfl
      rw [HJ.out] at hX
      clear HJ hr hwf
      go_wp2_with (first
        | (refine ld_cell rfl rfl hX rfl ?_)
        | (refine st_cell rfl rfl hR rfl rfl ?_; intro W9 hR9 C9))
      exact bodyPost_ret (results_cell_row rfl _ _ _ 31 _ (0, 0) _ rfl hR9 Try.underlying31 rfl (info_cell _)) rfl ⟨rfl, ab_chg hw C9 (by omega)⟩
    · have hlt : k < l.length := by omega
      obtain ⟨x, hx⟩ : ∃ x, l[k]? = some x := ⟨l[k], List.getElem?_eq_getElem hlt⟩
      obtain rfl := hp (by omega)
      have hki : (k : Int) < (n : Int) := by omega
      have hxw : Wf x := hwf x (List.mem_of_getElem? hx)
      have hg0 := hg (by omega)
      have hrw : ∀ W, Below w.heap.size w W → CRow W g off l := fun W hW j c hc i v hv => by rw [hW.cell (p := ⟨g, _, none⟩) hg0]; exact hr j c hc i v hv
      have hrx := hrw wr hw k x hx
      have HJ : Hid (joinO (l.take (k + 1)) = stepJ (joinO (l.take k)) x) := by
        show _ = _
        rw [List.take_add_one, hx]; exact joinO_snoc _ _
      have HW : Hid (∀ y, joinO (l.take k) = some y → Wf y) := wf_joinO _ (fun d hd => hwf d (List.mem_of_mem_take hd))
      have HA := joinO_allZ (l.take k)
      generalize joinO (l.take k) = s at *
      clear hr hwf hx hp hg
      go_upto_region 6 with (first
        | (refine ld_cell_mid rfl rfl hrx rfl ?_)
        | (refine al_cell rfl rfl ?_; intro W5 e5 hC5 hg5; clear e5)
        | (refine st_cell rfl rfl hC5 rfl rfl ?_; intro W6 hC6 C6))
      have hX6 := (hX.keep hg5).chg C6 (by have := hX.lt; omega)
      have hR6 := (hR.keep hg5).chg C6 (by have := hR.lt; omega)
      have hw6 := ab_chg (ab_trans hw hg5) C6 (by have := hR.lt; omega)
      have hXB : X < wr.heap.size := hX.lt
      clear hC5 hg5 C6 hrx hX hR hw
      generalize wr.heap.size = B at *
      cases hq : eqC x zc with
      | true =>
        have HN : Hid (joinO (l.take (k + 1)) = s) := by show _ = _; rw [HJ.out]; exact stepJ_unit hq
        clear hrw
        go_wp2_with (first
          | (refine ld_cell rfl rfl hC6 rfl ?_)
          | (refine bd_zero rfl rfl ?_)
          | (refine eql_b rfl rfl rfl rfl hq ?_))
        go_roundw
        case rel => exact ⟨k + 1, by omega, by go_num, by rw [HN.out]; exact hX6, hR6, hw6⟩
        case measure => simp [intOf]; omega
      | false =>
        have HQ : Hid (eqC x zc = false) := hq
        go_upto_region 7 with (first
          | (refine ld_cell rfl rfl hC6 rfl ?_)
          | (refine bd_zero rfl rfl ?_)
          | (refine eql_b rfl rfl rfl rfl hq ?_))
        clear hq
        go_wp2_with fail
        go_loop [6, 7] (fun f i => ∃ j : Nat, j ≤ k ∧ i = .int .i64 (j : Int) ∧ f = .bool (allZ (l.take j))) (fun _ i => k - (intOf i).toNat)
        case atStart => exact ⟨0, by omega, rfl, rfl⟩
        case round =>
          obtain ⟨j, hj, rfl, rfl⟩ := hrel
          by_cases cj : j = k
          · subst cj
            clear hrw
            rcases HA with ⟨rfl, hA⟩ | ⟨⟨y, rfl⟩, hA⟩
            · rw [hA]
              have HN : Hid (joinO (l.take (j + 1)) = some x) := by show _ = _; rw [HJ.out]; exact stepJ_none HQ.out
              clear hA
              go_wp2_with (first
                | (refine ld_cell rfl rfl hC6 rfl ?_)
                | (refine st_cell rfl rfl hX6 rfl rfl ?_; intro W9 hX9 C9))
              go_roundw
              case rel => exact ⟨j + 1, by omega, by go_num, by rw [HN.out]; exact hX9, hR6.chg C9 (by omega), ab_chg hw6 C9 (by omega)⟩
              case measure => simp [intOf]; omega
            · rw [hA]
              have HN : Hid (joinO (l.take (j + 1)) = some (bothF y x)) := by show _ = _; rw [HJ.out]; exact stepJ_some HQ.out
              have hyw := HW.out y rfl
              simp only [Option.getD_some] at hX6
              clear hA HJ HW HQ
              have hBX : B ≠ X := by omega
              have wy := hyw.2
              have wx := hxw.2
              have wy1 := wy 1 (by omega) (by omega)
              have wx1 := wx 1 (by omega) (by omega)
              have wy2 := hyw.1
              have wx2 := hxw.1
              obtain ⟨a0, a1, a2, a3, a4, a5, a6, a7, a8⟩ := hX6.nine
              obtain ⟨b0, b1, b2, b3, b4, b5, b6, b7, b8⟩ := hC6.nine
              have fa := hX6.frozen
              clear a1 a2 a3 a4 a5 a6 a7 a8 b1 b2 b3 b4 b5 b6 b7 b8 wy wx
              go_upto_region 15 with fail
              have hX7 := hX6.setN 0 (wrap64 (y 0 + x 0)) .i64 (by omega) rfl
              have C7 := chg_set W6 X 0 (.int .i64 (wrap64 (y 0 + x 0)))
              have hC7 := hC6.chg C7 hBX
              have hR7 := hR6.chg C7 (by omega)
              have hw7 := ab_chg hw6 C7 (by omega)
              clear C7 a0 b0 fa hX6 hC6 hR6 hw6
              generalize W6.setCell ⟨X, 0, none⟩ (.int .i64 (wrap64 (y 0 + x 0))) = W7 at *
              obtain ⟨a0, a1, a2, a3, a4, a5, a6, a7, a8⟩ := hX7.nine
              obtain ⟨b0, b1, b2, b3, b4, b5, b6, b7, b8⟩ := hC7.nine
              rw [cup_ne _ _ _ _ (by omega)] at a1 a2
              clear a0 a3 a4 a5 a6 a7 a8 b0 b3 b4 b5 b6 b7 b8
              go_upto_region 16 with (go_at_call 24; refine (radd_any _ _ _ _ _ wy1.1 wy1.2 wy2.1 wy2.2 wx1.1 wx1.2 wx2.1 wx2.2).mono ?_; rintro e W8 ⟨rfl, b8⟩; have hX8 := hX7.keep b8; have hC8 := hC7.keep b8; have hR8 := hR7.keep b8; have hw8 := ab_trans hw7 b8; have fa8 := hX8.frozen; obtain ⟨e0, e1, e2, e3, e4, e5, e6, e7, e8⟩ := hX8.nine; clear b8 e0 e3 e4 e5 e6 e7 e8)
              have hX9 := (hX8.setN 1 (wh (wv (y 1) (y 2) + wv (x 1) (x 2))) .i64 (by omega) rfl).setN 2 (wl (wv (y 1) (y 2) + wv (x 1) (x 2))) .u64 (by omega) rfl
              have C9 := (chg_set W8 X 1 (.int .i64 (wh (wv (y 1) (y 2) + wv (x 1) (x 2))))).trans (chg_set _ X 2 (.int .u64 (wl (wv (y 1) (y 2) + wv (x 1) (x 2)))))
              have hC9 := hC8.chg C9 hBX
              have hR9 := hR8.chg C9 (by omega)
              have hw9 := ab_chg hw8 C9 (by omega)
              clear C9 e1 e2 fa8 hX7 hC7 hR7 hw7 hX8 hC8 hR8 hw8 a1 a2 b1 b2
              generalize (W8.setCell ⟨X, 1, none⟩ (.int .i64 (wh (wv (y 1) (y 2) + wv (x 1) (x 2))))).setCell ⟨X, 2, none⟩ (.int .u64 (wl (wv (y 1) (y 2) + wv (x 1) (x 2)))) = W9 at *
              obtain ⟨c2, hc2⟩ : ∃ c, c = cup (cup (cup y 0 (wrap64 (y 0 + x 0))) 1 (wh (wv (y 1) (y 2) + wv (x 1) (x 2)))) 2 (wl (wv (y 1) (y 2) + wv (x 1) (x 2))) := ⟨_, rfl⟩
              have H2 : Hid (c2 = _) := hc2
              rw [← hc2] at hX9
              clear hc2
              have hc : ∀ i, 3 ≤ i → c2 i = y i := by intro i hi; rw [H2.out, cup_ne _ _ _ _ (by omega), cup_ne _ _ _ _ (by omega), cup_ne _ _ _ _ (by omega)]
              obtain ⟨a0, a1, a2, a3, a4, a5, a6, a7, a8⟩ := hX9.nine
              obtain ⟨b0, b1, b2, b3, b4, b5, b6, b7, b8⟩ := hC9.nine
              rw [hc 3 (by omega)] at a3
              clear a0 a1 a2 a4 a5 a6 a7 a8 b0 b1 b2 b4 b5 b6 b7 b8
              have fa := hX9.frozen
              have HC : Hid (∀ i, 3 ≤ i → c2 i = y i) := hc
              clear hc
              go_upto_if 55 with fail
              go_cut [] from 10 to 90 (fun wc => Blk wc X (CA (cup c2 3 (min (y 3) (x 3)))) 31 ∧ Blk wc B (CA x) 31 ∧ Blk wc w.heap.size (CA zc) 31 ∧ Below w.heap.size w wc)
              case first =>
                rcases Int.lt_or_le (x 3) (y 3) with p | p
                · go_wp2_with fail
                  all_goals first | (exfalso; omega) | skip
                  go_meet
                  case rel =>
                    have e : min (y 3) (x 3) = x 3 := by omega
                    have CC := chg_set W9 X 3 (.int .i64 (x 3))
                    exact ⟨by rw [e]; exact hX9.setN 3 (x 3) .i64 (by omega) rfl, hC9.chg CC hBX, hR9.chg CC (by omega), ab_chg hw9 CC (by omega)⟩
                · go_wp2_with fail
                  all_goals first | (exfalso; omega) | skip
                  go_meet
                  case rel =>
                    have e : min (y 3) (x 3) = c2 3 := by rw [HC.out 3 (by omega)]; omega
                    exact ⟨by rw [e, CA_congr (cup_id c2 3)]; exact hX9, hC9, hR9, hw9⟩
              case rest =>
                clear a3 b3 fa hX9 hC9 hR9 hw9
                obtain ⟨hX9, hC9, hR9, hw9⟩ := hcut
                obtain ⟨Wa, rfl⟩ : ∃ V, V = wc := ⟨_, rfl⟩
                obtain ⟨c3, hc3⟩ : ∃ c, c = cup c2 3 (min (y 3) (x 3)) := ⟨_, rfl⟩
                have H3 : Hid (c3 = _) := hc3
                rw [← hc3] at hX9
                clear hc3
                have hc : ∀ i, 4 ≤ i → c3 i = y i := by intro i hi; rw [H3.out, cup_ne _ _ _ _ (by omega), HC.out i (by omega)]
                obtain ⟨a0, a1, a2, a3, a4, a5, a6, a7, a8⟩ := hX9.nine
                obtain ⟨b0, b1, b2, b3, b4, b5, b6, b7, b8⟩ := hC9.nine
                rw [hc 4 (by omega)] at a4
                clear a0 a1 a2 a3 a5 a6 a7 a8 b0 b1 b2 b3 b5 b6 b7 b8
                have fa := hX9.frozen
                have HD : Hid (∀ i, 4 ≤ i → c3 i = y i) := hc
                clear hc
                go_upto_if 63 with fail
                go_cut [] from 10 to 90 (fun wc => Blk wc X (CA (cup c3 4 (max (y 4) (x 4)))) 31 ∧ Blk wc B (CA x) 31 ∧ Blk wc w.heap.size (CA zc) 31 ∧ Below w.heap.size w wc)
                case first =>
                  rcases Int.lt_or_le (y 4) (x 4) with p | p
                  · go_wp2_with fail
                    all_goals first | (exfalso; omega) | skip
                    go_meet
                    case rel =>
                      have e : max (y 4) (x 4) = x 4 := by omega
                      have CC := chg_set Wa X 4 (.int .i64 (x 4))
                      exact ⟨by rw [e]; exact hX9.setN 4 (x 4) .i64 (by omega) rfl, hC9.chg CC hBX, hR9.chg CC (by omega), ab_chg hw9 CC (by omega)⟩
                  · go_wp2_with fail
                    all_goals first | (exfalso; omega) | skip
                    go_meet
                    case rel =>
                      have e : max (y 4) (x 4) = c3 4 := by rw [HD.out 4 (by omega)]; omega
                      exact ⟨by rw [e, CA_congr (cup_id c3 4)]; exact hX9, hC9, hR9, hw9⟩
                case rest =>
                  clear a4 b4 fa hX9 hC9 hR9 hw9
                  obtain ⟨hX9, hC9, hR9, hw9⟩ := hcut
                  obtain ⟨Wb, rfl⟩ : ∃ V, V = wc := ⟨_, rfl⟩
                  obtain ⟨c4, hc4⟩ : ∃ c, c = cup c3 4 (max (y 4) (x 4)) := ⟨_, rfl⟩
                  have H4 : Hid (c4 = _) := hc4
                  rw [← hc4] at hX9
                  clear hc4
                  have hc : ∀ i, 5 ≤ i → c4 i = y i := by intro i hi; rw [H4.out, cup_ne _ _ _ _ (by omega), HD.out i (by omega)]
                  have HY : Hid (c4 = cup (cup (cup (cup (cup y 0 (wrap64 (y 0 + x 0))) 1 (wh (wv (y 1) (y 2) + wv (x 1) (x 2)))) 2 (wl (wv (y 1) (y 2) + wv (x 1) (x 2)))) 3 (min (y 3) (x 3))) 4 (max (y 4) (x 4))) := by show _ = _; rw [H4.out, H3.out, H2.out]
                  obtain ⟨a0, a1, a2, a3, a4, a5, a6, a7, a8⟩ := hX9.nine
                  obtain ⟨b0, b1, b2, b3, b4, b5, b6, b7, b8⟩ := hC9.nine
                  rw [hc 5 (by omega)] at a5
                  rw [hc 6 (by omega)] at a6
                  rw [hc 7 (by omega)] at a7
                  rw [hc 8 (by omega)] at a8
                  clear a0 a1 a2 a3 a4 b0 b1 b2 b3 b4 H2 H3 H4 HC HD hc
                  obtain ⟨L, HL⟩ : ∃ L : Bool, Hid (ltr (x 5) (x 6) (x 7) (x 8) (y 5) (y 6) (y 7) (y 8) = L) := ⟨_, rfl⟩
                  go_upto_if 71 with (go_at_call 16; refine (rlater_any _ _ _ _ _ _ _ _ _).mono ?_; rintro e Wc ⟨rfl, bc⟩)
                  rw [HL.out]
                  have hXc := hX9.keep bc
                  have hCc := hC9.keep bc
                  have hRc := hR9.keep bc
                  have hwc := ab_trans hw9 bc
                  clear a5 a6 a7 a8 b5 b6 b7 b8 bc hX9 hC9 hR9 hw9
                  go_cut [] from 10 to 90 (fun wc => Blk wc X (CA (headF y x)) 31 ∧ Blk wc B (CA x) 31 ∧ Blk wc w.heap.size (CA zc) 31 ∧ Below w.heap.size w wc)
                  case first =>
                    obtain ⟨b0, b1, b2, b3, b4, b5, b6, b7, b8⟩ := hCc.nine
                    obtain ⟨a0, a1, a2, a3, a4, a5, a6, a7, a8⟩ := hXc.nine
                    have fa := hXc.frozen
                    clear b0 b1 b2 b3 b4 a0 a1 a2 a3 a4
                    cases L with
                    | true =>
                      go_wp2_with fail
                      go_meet
                      case rel =>
                        have CC := ((chg_set Wc X 5 (.int .i64 (x 5))).trans (chg_set _ X 6 (.int .i64 (x 6)))).trans ((chg_set _ X 7 (.int .i64 (x 7))).trans (chg_set _ X 8 (.int .i64 (x 8))))
                        have hH := (((hXc.setN 5 (x 5) .i64 (by omega) rfl).setN 6 (x 6) .i64 (by omega) rfl).setN 7 (x 7) .i64 (by omega) rfl).setN 8 (x 8) .i64 (by omega) rfl
                        rw [CA_congr (head_yes y x c4 HY.out HL.out)] at hH
                        exact ⟨hH, hCc.chg CC hBX, hRc.chg CC (by omega), ab_chg hwc CC (by omega)⟩
                    | false =>
                      go_wp2_with fail
                      go_meet
                      case rel => exact ⟨by rw [← CA_congr (head_no y x c4 HY.out HL.out)]; exact hXc, hCc, hRc, hwc⟩
                  case rest =>
                    clear hXc hCc hRc hwc HL HY
                    obtain ⟨hX1, hC1, hR1, hw1⟩ := hcut
                    obtain ⟨Wd, rfl⟩ : ∃ V, V = wc := ⟨_, rfl⟩
                    go_wp2_with fail
                    go_loopw [8] (fun i wr => ∃ p : Nat, p ≤ 65 ∧ i = .int .i64 (p : Int) ∧ Blk wr X (CA (addH (headF y x) x p)) 31 ∧ Blk wr B (CA x) 31 ∧ Blk wr w.heap.size (CA zc) 31 ∧ Below w.heap.size w wr) (fun i _ => 65 - (intOf i).toNat)
                    case atStart => exact ⟨0, by omega, rfl, by rw [addH_zero]; exact hX1, hC1, hR1, hw1⟩
                    case round =>
                      clear hX1 hC1 hR1 hw1
                      obtain ⟨p, hp, rfl, hX, hC, hR, hw⟩ := hrel
                      by_cases cp : p = 65
                      · subst cp
                        rw [CA_congr (addH_both y x)] at hX
                        go_wp2_with fail
                        go_roundw
                        case rel => exact ⟨j + 1, by omega, by go_num, by rw [HN.out]; exact hX, hR, hw⟩
                        case measure => simp [intOf]; omega
                      · have hpi : (p : Int) < 65 := by omega
                        have cX := hX.at (CA_at64 _ (9 + p) (by omega) (by omega))
                        rw [addH_at] at cX
                        have cB := hC.at (CA_at64 _ (9 + p) (by omega) (by omega))
                        have fX := hX.frozen (9 + p)
                        have HS := addH_succ (headF y x) x p
                        have HS' : Hid (addH (headF y x) x (p + 1) = cup (addH (headF y x) x p) (9 + p) (wrap64 (headF y x (9 + p) + x (9 + p)))) := HS
                        clear HS
                        generalize headF y x (9 + p) = v1 at *
                        generalize hv2 : x (9 + p) = v2 at *
                        clear hv2
                        go_upto_region 25 with fail
                        go_region
                        go_wp2_with fail
                        go_roundw
                        case rel =>
                          have CC := chg_set wr X (9 + p) (.int .i64 (wrap64 (v1 + v2)))
                          exact ⟨p + 1, by omega, by go_num, by rw [HS'.out]; exact (hX.setN (9 + p) _ .i64 (by omega) (by unfold ck; rw [if_neg (by omega)])).drew, (hC.chg CC hBX).drew, (hR.chg CC (by omega)).drew, ab_drew (ab_chg hw CC (by omega))⟩
                        case measure => simp [intOf]; omega
          · obtain ⟨z, hz⟩ : ∃ z, l[j]? = some z := ⟨l[j], List.getElem?_eq_getElem (by omega)⟩
            have hji : (j : Int) < (k : Int) := by omega
            have hjn : (j : Int) < (n : Int) := by omega
            have hrz := hrw W6 hw6 j z hz
            have HZ : Hid (allZ (l.take (j + 1)) = (allZ (l.take j) && eqC z zc)) := by show _ = _; rw [List.take_add_one, hz]; exact allZ_snoc _ _
            clear hz hrw
            generalize hf : allZ (l.take j) = f at *
            clear hf
            cases f with
            | false =>
              go_wp2_with fail
              go_round
              case rel => exact ⟨j + 1, by omega, by go_num, by rw [HZ.out]; rfl⟩
              case measure => simp [intOf]; omega
            | true =>
              generalize he : eqC z zc = e at *
              go_wp2_with (first
                | (refine ldm_step rfl rfl hrz rfl ?_)
                | (refine bd_zero rfl rfl ?_)
                | (refine eql_b rfl rfl rfl rfl he ?_))
              go_round
              case rel => exact ⟨j + 1, by omega, by go_num, by rw [HZ.out]; rfl⟩
              case measure => simp [intOf]; omega
end Go.Proofs.Ytnppdachbfcfkaa
