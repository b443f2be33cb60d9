/-
  It doesn't matter in which order the sources' streams come: estuarylaw16.BasinOrder returns true for every input; no condition.
-/
import Derived.Test.YtoeilckeebojmaaPk54
import Derived.Test.YtoeilckeebojmaaPk53
import Derived.Test.YtoeilckeebojmaaPk09
import Derived.ProofKit
import Derived.OpenShut
import Derived.ChangeOld
import Derived.Below
namespace Go.Proofs.Ytoeilckeebojmaa.basinOrder
open Go.ChangeShapes Go.WideShapes Go.ChangeAt Go.RowKit Go.Joins
set_option linter.unusedVariables false
set_option maxRecDepth 100000

theorem big (q1 : Option Addr) (n c1 : Nat) (q2 : Option Addr) (m c2 : Nat) (q3 : Option Addr) (t c3 : Nat) (w : World) (h : ¬ (n ≤ 60 ∧ m ≤ 60)) : Calls Try.prog 7 #[.slice q1 n c1, .slice q2 m c2, .slice q3 t c3] w fun e w' => e = .returned (.bool true) ∧ Below w.heap.size w w' := by
  by_cases hn : n ≤ 60
  · have h1 : ¬ (60 : Int) < (n : Int) := by omega
    have h2 : (60 : Int) < (m : Int) := by omega
    go_enter Try.func7, Try.ntmps7
    go_wp2_with (go_at_call 8; refine (alive16_any _).mono ?_; rintro e W1 ⟨rfl, hb⟩)
    go_ret
    exact ⟨rfl, hb⟩
  · have h1 : (60 : Int) < (n : Int) := by omega
    go_enter Try.func7, Try.ntmps7
    go_wp2_with (go_at_call 8; refine (alive16_any _).mono ?_; rintro e W1 ⟨rfl, hb⟩)
    go_ret
    exact ⟨rfl, hb⟩
theorem ok_new : newOK ((2 : Nat) : Int) odR 2 1024 = true := by decide
set_option maxHeartbeats 8000000 in
theorem small (q1 : Option Addr) (na c1 : Nat) (q2 : Option Addr) (nb c2 : Nat) (q3 : Option Addr) (nt c3 g3 o3 : Nat) (a b : List Op5) (ts : List Bool) (w : World) (hna : a.length = na) (hnb : b.length = nb) (h1 : ER E5 w (.slice q1 na c1) a) (h2 : ER E5 w (.slice q2 nb c2) b) (h3 : Bs w q3 nt c3 g3 o3 ts) (ha : ∀ o ∈ a, Fit5 o) (hb : ∀ o ∈ b, Fit5 o) (hna1 : na ≤ 60) (hnb1 : nb ≤ 60) :
    Calls Try.prog 7 #[.slice q1 na c1, .slice q2 nb c2, .slice q3 nt c3] w fun e w' => e = .returned (.bool true) ∧ Below w.heap.size w w' := by
  have HA : Hid (∀ V, Below w.heap.size w V → ER E5 V (.slice q1 na c1) a) := fun V hV => h1.keep hV
  have HB : Hid (∀ V, Below w.heap.size w V → ER E5 V (.slice q2 nb c2) b) := fun V hV => h2.keep hV
  have HTu : Hid (∀ V, Below w.heap.size w V → ∀ j x, ts[j]? = some x → V.cell? ⟨g3, o3 + j, none⟩ = some (.bool x)) := fun V hV j x hx => keep_cell hV (h3.row j x hx) (h3.lt (by have := (List.getElem?_eq_some_iff.1 hx).1; have := h3.len; omega))
  have HT3 : Hid ((0 < nt → q3 = some ⟨g3, o3, none⟩) ∧ ts.length = nt ∧ nt ≤ 9223372036854775807) := ⟨h3.ptr, h3.len, Nat.le_trans h3.fits h3.max⟩
  have HFa : Hid (∀ o ∈ a, Fit5 o) := ha
  have HFb : Hid (∀ o ∈ b, Fit5 o) := hb
  have HNa : Hid (a.length = na) := hna
  have HNb : Hid (b.length = nb) := hnb
  have l1 : ¬ (60 : Int) < (na : Int) := by omega
  have l2 : ¬ (60 : Int) < (nb : Int) := by omega
  have e00 := ne00r
  clear h1 h2 h3 ha hb hna hnb
  go_enter Try.func7, Try.ntmps7
  go_upto_region 5 with (go_at_call 8; refine (alive16_any _).mono ?_; rintro e W1 ⟨rfl, a1⟩)
  obtain ⟨A, hE, hX, a2⟩ := blk1 W1 #[.int .i64 10, .int .i64 3] 3
  have hA := ab_trans a1 a2
  have HNw := banew_ok 2 _ odR 2 1024 A (is_two hX) (fun r hr => by simp [odR] at hr; omega) ok_new
  go_upto_region 6 with (go_at_call 9; refine HNw.mono ?_; rintro e W3 ⟨⟨Kx, rfl, hBx⟩, b3⟩)
  have hw3 := ab_trans hA b3
  have hBx3 : Bq W3 w.heap.size Kx ods0 := Bq.less hBx hA.size
  clear hE hX HNw hBx b3 a1 a2 hA l1 l2
  obtain ⟨A2, hE2, hX2, a2⟩ := blk1 W3 #[.int .i64 10, .int .i64 3] 3
  have HNw := banew_ok 2 _ odR 2 1024 A2 (is_two hX2) (fun r hr => by simp [odR] at hr; omega) ok_new
  go_upto_region 7 with (go_at_call 9; refine HNw.mono ?_; rintro e W4 ⟨⟨Ky, rfl, hBy⟩, b4⟩)
  have hBx4 := (hBx3.keep a2).keep b4
  have hw4 := ab_trans (ab_trans hw3 a2) b4
  have hBy4 : Bq W4 A2.heap.size Ky ods0 := hBy
  have hxN : ∀ k, bkB Kx k → k < A2.heap.size := fun k hk => Nat.lt_of_lt_of_le (hBx3.bks hk).2 a2.size
  have hxb : Kx.b < A2.heap.size := Nat.lt_of_lt_of_le hBx3.blk.lt a2.size
  have hN0 : w.heap.size ≤ A2.heap.size := Nat.le_trans hw3.size a2.size
  clear hE2 hX2 HNw hBy hBx3 hw3 a2 b4
  generalize A2.heap.size = N0 at *
  go_upto_region 9 with fail
  have hbl : Below W4.heap.size W4 W4 := Below.refl _ _
  go_upto_region 10 with (go_at_call 10; refine (rleast_any _).mono ?_; rintro e Wl ⟨rfl, bl⟩; have hbl := ab_trans hbl bl)
  obtain ⟨V5, hE5, hX5, hw5⟩ := blk1 Wl #[.int .i64 (-9223372036854775808), .int .i64 (-9223372036854775808), .int .i64 (-9223372036854775808), .int .i64 (-9223372036854775808), .int .i64 (-9223372036854775808), .int .i64 (-9223372036854775808), .int .i64 (-9223372036854775808), .int .i64 (-9223372036854775808)] 38
  rw [hE5]
  have hz5 : Wl.heap.size + 1 = V5.heap.size := by rw [← hE5]; simp
  rw [hz5]
  obtain ⟨V0, hE0, hX0, hw0⟩ := blk1 V5 #[.slice (some ⟨Wl.heap.size, 0, none⟩) 4 4] 36
  rw [hE0]
  have b40 : Below W4.heap.size W4 V0 := ab_trans (ab_trans hbl hw5) hw0
  have hBx0 := hBx4.keep b40
  have hBy0 := hBy4.keep b40
  have hw00 := ab_trans hw4 b40
  have hxq : ∀ k, bk2 Kx Ky k → k < W4.heap.size := fun k hk => by
    rcases hk with hk | hk
    · exact (hBx4.bks hk).2
    · exact (hBy4.bks hk).2
  have hgq : W4.heap.size ≤ Wl.heap.size := hbl.size
  have hgc5 : Wl.heap.size ≤ V5.heap.size := hw5.size
  have hER : ER E2 V0 (.slice (some ⟨Wl.heap.size, 0, none⟩) 4 4) odC := (er_blk (E := E2) (l := odC) (n := 4) hX5 rfl rfl (by omega)).keep hw0
  have HCut : Hid (∀ V, Frm (bk2 Kx Ky) V0 V → V.cell? ⟨V5.heap.size, 0, none⟩ = some (.slice (some ⟨Wl.heap.size, 0, none⟩) 4 4) ∧ V5.heap.size < V.heap.size ∧ Stay E2 Kx V (.slice (some ⟨Wl.heap.size, 0, none⟩) 4 4) odC ∧ Stay E2 Ky V (.slice (some ⟨Wl.heap.size, 0, none⟩) 4 4) odC) := fun V hV => by
    have hout : OutB (.slice (some ⟨Wl.heap.size, 0, none⟩) 4 4) (bk2 Kx Ky) := fun a n c e hk => by
      cases e
      have h9 : (Wl.heap.size : Nat) < W4.heap.size := hxq _ hk
      omega
    have hB0 := hX0.frm hV (fun hk => by have := hxq _ hk; omega)
    exact ⟨hB0.at rfl, hB0.lt, fun V' hV' => hER.frm (hV.trans (hV'.mono fun k hk => .inl hk)) hout, fun V' hV' => hER.frm (hV.trans (hV'.mono fun k hk => .inr hk)) hout⟩
  have HBel : Hid (∀ V, Frm (bk2 Kx Ky) V0 V → Below w.heap.size w V) := fun V hV => hw00.trans (hV.below hw00.size (fun k hk => by
    rcases hk with hk | hk
    · exact (hBx4.bks hk).1
    · exact Nat.le_trans hN0 (hBy4.bks hk).1))
  have HxN : Hid ((∀ k, bkB Kx k → k < N0) ∧ Kx.b < N0) := ⟨hxN, hxb⟩
  have HF0 : Hid (Frm (bk2 Kx Ky) V0 V0) := Frm.refl _ _
  have HBx0 : Hid (Bq V0 w.heap.size Kx ods0) := hBx0
  have HBy0 : Hid (Bq V0 N0 Ky ods0) := hBy0
  clear hBx4 hBy4 hw4 hxN hxb hN0 hbl hE5 hX5 hw5 hz5 hE0 hX0 hw0 b40 hBx0 hBy0 hw00 hxq hgq hgc5 hER
  generalize V5.heap.size = gc at *
  generalize Wl.heap.size = gq at *
  go_wp2_with fail
  go_loopw [13, 14, 15] (fun x y z V => ∃ (i k : Nat) (S : Bsn) (T : List Tok), i ≤ na ∧ k ≤ nb ∧ x = .int .i64 (i : Int) ∧ y = .int .i64 (k : Int) ∧ z = .int .i64 ((i + k : Nat) : Int) ∧ Bq V w.heap.size Kx S ∧ Bq V N0 Ky ods0 ∧ OdI S (a.take i) (b.take k) T ∧ Frm (bk2 Kx Ky) V0 V) (fun x y _ _ => (na - (intOf x).toNat) + (nb - (intOf y).toNat))
  case atStart => exact ⟨0, 0, ods0, [], by omega, by omega, rfl, rfl, rfl, HBx0.out, HBy0.out, od_new, HF0.out⟩
  case round =>
    clear HBx0 HBy0 HF0
    obtain ⟨i, k, S, T, hi, hk, rfl, rfl, rfl, hBx, hBy, hI, hF⟩ := hrel
    have hVw := HBel.out wr hF
    by_cases ci : i = na
    · by_cases ck : k = nb
      · have hI : OdI S a b T := by
          rw [List.take_of_length_le (by have := HNa.out; omega), List.take_of_length_le (by have := HNb.out; omega)] at hI
          exact hI
        have e1 : ¬ (i : Int) < (na : Int) := by omega
        have e2 : ¬ (k : Int) < (nb : Int) := by omega
        clear hVw
        go_wp2_with fail
        go_loopw [116] (fun z V => ∃ (j : Nat) (Sy : Bsn) (Ty : List Tok), j ≤ nb ∧ z = .int .i64 (j : Int) ∧ Bq V w.heap.size Kx S ∧ Bq V N0 Ky Sy ∧ OdI Sy [] (b.take j) Ty ∧ Frm (bk2 Kx Ky) V0 V) (fun z _ => nb - (intOf z).toNat)
        case atStart => exact ⟨0, _, _, by omega, rfl, hBx, hBy, od_new, hF⟩
        case round =>
          clear hBx hBy hF
          obtain ⟨j, Sy, Ty, hj, rfl, hBx, hBy, hIy, hF⟩ := hrel
          have hVw := HBel.out wr hF
          by_cases cj : j = nb
          · have hIy0 : OdI Sy (a.take 0) b Ty := by
              rw [List.take_of_length_le (by have := HNb.out; omega)] at hIy
              exact hIy
            clear hIy hVw
            subst cj
            go_wp2_with fail
            go_loopw [128] (fun z V => ∃ (j : Nat) (Sy : Bsn) (Ty : List Tok), j ≤ na ∧ z = .int .i64 (j : Int) ∧ Bq V w.heap.size Kx S ∧ Bq V N0 Ky Sy ∧ OdI Sy (a.take j) b Ty ∧ Frm (bk2 Kx Ky) V0 V) (fun z _ => na - (intOf z).toNat)
            case atStart => exact ⟨0, _, _, by omega, rfl, hBx, hBy, hIy0, hF⟩
            case round =>
              clear hBx hBy hF
              obtain ⟨j, Sy, Ty, hj, rfl, hBx, hBy, hIy, hF⟩ := hrel
              have hVw := HBel.out wr hF
              by_cases cj : j = na
              · rw [List.take_of_length_le (by have := HNa.out; omega)] at hIy
                have HS : Hid (OdS S Sy) := od_same hI hIy
                clear hI hIy hVw
                subst cj
                have HBX : Hid (∀ V, Below wr.heap.size wr V → Bq V w.heap.size Kx S) := fun V hV => hBx.keep hV
                have HBY : Hid (∀ V, Below wr.heap.size wr V → Bq V N0 Ky Sy) := fun V hV => hBy.keep hV
                have HWr : Hid (Below w.heap.size w wr) := HBel.out wr hF
                have HLx : Calls Try.prog 16 #[bptr Kx] wr fun e w' => e = .returned (.int .i64 ((S.ks.length : Nat) : Int)) ∧ w' = wr := blen_any wr hBx
                have HLy : Calls Try.prog 16 #[bptr Ky] wr fun e w' => e = .returned (.int .i64 ((S.ks.length : Nat) : Int)) ∧ w' = wr := by
                  rw [HS.out.len]
                  exact blen_any wr hBy
                clear hBx hBy hF HCut HBel HxN HA HB HTu HT3 HFa HFb HNa HNb
                generalize S.ks.length = nks at *
                go_wp2_with fail
                refine HLx.mono ?_
                rintro e V6 ⟨rfl, rfl⟩
                go_wp2_with fail
                refine HLy.mono ?_
                rintro e V6 ⟨rfl, e6⟩
                subst e6
                clear HLx HLy
                go_wp2_with fail
                go_loopw [143] (fun z V => ∃ l : Nat, l ≤ 4 ∧ z = .int .i64 (l : Int) ∧ Below V6.heap.size V6 V) (fun z _ => 4 - (intOf z).toNat)
                case atStart => exact ⟨0, by omega, rfl, Below.refl _ _⟩
                case round =>
                  obtain ⟨l, hl, rfl, hV⟩ := hrel
                  by_cases cl : l = 4
                  · subst cl
                    go_wp2_with fail
                    go_ret
                    exact ⟨rfl, HWr.out.trans (hV.mono HWr.out.size)⟩
                  · have hli : (l : Int) < 4 := by omega
                    have HCx : Calls Try.prog 22 #[bptr Kx, .int .i64 (l : Int)] wr fun e w' => e = .returned (.tuple #[Plc (clsP S l).1 (clsP S l).2, .bool (lmB S.fl)]) ∧ Below wr.heap.size wr w' := baclosed_at l wr (HBX.out wr hV) (by rw [HS.out.ba]; omega)
                    have HCy : ∀ V, Below wr.heap.size wr V → Calls Try.prog 22 #[bptr Ky, .int .i64 (l : Int)] V fun e w' => e = .returned (.tuple #[Plc (clsP S l).1 (clsP S l).2, .bool (lmB S.fl)]) ∧ Below V.heap.size V w' := fun V hb => by
                      rw [HS.out.cls, HS.out.lm]
                      exact baclosed_at l V (HBY.out V (ab_trans hV hb)) (by rw [HS.out.ba']; omega)
                    generalize clsP S l = cp at *
                    generalize lmB S.fl = lm at *
                    go_upto_region 41 with (go_at_call 22; refine HCx.mono ?_; rintro e Wa ⟨rfl, ba⟩; obtain ⟨Wb, hEb, hXb, bb⟩ := blk1 Wa #[.int .i64 cp.1, .int .i64 cp.2] 38)
                    have bab := ab_trans ba bb
                    clear HCx
                    go_upto_region 42 with (go_at_call 22; refine (HCy _ bab).mono ?_; rintro e Wc ⟨rfl, bc⟩; obtain ⟨Wd, hEd, hXd, bd⟩ := blk1 Wc #[.int .i64 cp.1, .int .i64 cp.2] 38)
                    obtain ⟨We, hEe, hXe, be⟩ := blk1 Wd #[.int .i64 9223372036854775807, .int .i64 9223372036854775807] 38
                    have bbe : Below Wb.heap.size Wb We := ab_trans (ab_trans bc bd) be
                    have hVe : Below V6.heap.size V6 We := ab_trans hV (ab_trans bab bbe)
                    have HX1 : Hid (∀ V, Below We.heap.size We V → V.cell? ⟨Wa.heap.size, 0, none⟩ = some (.int .i64 cp.1) ∧ V.cell? ⟨Wa.heap.size, 1, none⟩ = some (.int .i64 cp.2)) := fun V hb => ⟨((hXb.keep bbe).keep hb).at rfl, ((hXb.keep bbe).keep hb).at rfl⟩
                    have HX2 : Hid (∀ V, Below We.heap.size We V → V.cell? ⟨Wc.heap.size, 0, none⟩ = some (.int .i64 cp.1) ∧ V.cell? ⟨Wc.heap.size, 1, none⟩ = some (.int .i64 cp.2)) := fun V hb => ⟨((hXd.keep be).keep hb).at rfl, ((hXd.keep be).keep hb).at rfl⟩
                    have HX3 : Hid (∀ V, Below We.heap.size We V → V.cell? ⟨Wd.heap.size, 0, none⟩ = some (.int .i64 9223372036854775807) ∧ V.cell? ⟨Wd.heap.size, 1, none⟩ = some (.int .i64 9223372036854775807)) := fun V hb => ⟨(hXe.keep hb).at rfl, (hXe.keep hb).at rfl⟩
                    have HVe : Hid (Below V6.heap.size V6 We) := hVe
                    clear HCy bab ba bb hXb bc bd hXd be hXe bbe hVe hV
                    go_upto_region 43 with fail
                    clear hEb hEd hEe
                    have bnb : (lm != lm) = false := by cases lm <;> rfl
                    refine wp_region_held_drew (S := fun w' => Below We.heap.size We w') (by kernel_rfl) (ab_drew (Below.refl _ _)) (fun hHeld => ?_)
                    refine takeH (i := 0) (some 159) rfl rfl (by kernel_rfl) (by kernel_rfl) (by kernel_rfl) (fun _ _ _ h => h) (by rfl) (fun w hSw => by (try dsimp only at hSw); (obtain ⟨r0, r1⟩ := HX1.out _ hSw; go_simp; try rfl)) hHeld ?_
                    go_frame
                    refine takeH (i := 1) (some 160) rfl rfl (by kernel_rfl) (by kernel_rfl) (by kernel_rfl) (fun _ _ _ h => h) (by rfl) (fun w hSw => by (try dsimp only at hSw); (obtain ⟨r0, r1⟩ := HX2.out _ hSw; go_simp; try rfl)) hHeld ?_
                    go_frame
                    refine takeH (i := 2) (some 161) rfl rfl (by kernel_rfl) (by kernel_rfl) (by kernel_rfl) (fun _ _ _ h => h) (by rfl) (fun w hSw => by (try dsimp only at hSw); go_simp; try rfl) hHeld ?_
                    go_frame
                    refine takeH (i := 3) (some 162) rfl rfl (by kernel_rfl) (by kernel_rfl) (by kernel_rfl) (fun _ _ _ h => h) (by rfl) (fun w hSw => by (try dsimp only at hSw); go_simp; try rfl) hHeld ?_
                    go_frame
                    refine takeH (i := 4) (some 163) rfl rfl (by kernel_rfl) (by kernel_rfl) (by kernel_rfl) (fun _ _ _ h => h) (by rfl) (fun w hSw => by (try dsimp only at hSw); go_simp; try rfl) hHeld ?_
                    go_frame
                    refine takeH (i := 5) (some 164) rfl rfl (by kernel_rfl) (by kernel_rfl) (by kernel_rfl) (fun _ _ _ h => h) (by rfl) (fun w hSw => by (try dsimp only at hSw); go_simp; try rfl) hHeld ?_
                    go_frame
                    refine takeH (i := 6) (some 165) rfl rfl (by kernel_rfl) (by kernel_rfl) (by kernel_rfl) (fun _ _ _ h => h) (by rfl) (fun w hSw => by (try dsimp only at hSw); go_simp; try rfl) hHeld ?_
                    go_frame
                    refine takeH (i := 7) (some 166) rfl rfl (by kernel_rfl) (by kernel_rfl) (by kernel_rfl) (fun _ _ _ h => h) (by rfl) (fun w hSw => by (try dsimp only at hSw); go_simp; try rfl) hHeld ?_
                    go_frame
                    refine takeH (i := 8) (some 167) rfl rfl (by kernel_rfl) (by kernel_rfl) (by kernel_rfl) (fun _ _ _ h => h) (by rfl) (fun w hSw => by (try dsimp only at hSw); go_simp; try rfl) hHeld ?_
                    go_frame
                    refine takeH (i := 9) (some 168) rfl rfl (by kernel_rfl) (by kernel_rfl) (by kernel_rfl) (fun _ _ _ h => h) (by rfl) (fun w hSw => by (try dsimp only at hSw); go_simp; try rfl) hHeld ?_
                    go_frame
                    refine takeH (i := 10) (some 169) rfl rfl (by kernel_rfl) (by kernel_rfl) (by kernel_rfl) (fun _ _ _ h => h) (by rfl) (fun w hSw => by (try dsimp only at hSw); go_simp; try rfl) hHeld ?_
                    go_frame
                    refine takeH (i := 11) (some 170) rfl rfl (by kernel_rfl) (by kernel_rfl) (by kernel_rfl) (fun _ _ _ h => h) (by rfl) (fun w hSw => by (try dsimp only at hSw); (obtain ⟨r0, r1⟩ := HX3.out _ hSw; go_simp; try rfl)) hHeld ?_
                    go_frame
                    refine takeH (i := 13) (some 172) rfl rfl (by kernel_rfl) (by kernel_rfl) (by kernel_rfl) (fun _ _ _ h => h) (by rfl) (fun w hSw => by (try dsimp only at hSw); go_simp; try rfl) hHeld ?_
                    go_frame
                    refine takeH (i := 14) (some 173) rfl rfl (by kernel_rfl) (by kernel_rfl) (by kernel_rfl) (fun _ _ _ h => h) (by rfl) (fun w hSw => by (try dsimp only at hSw); go_simp; try rfl) hHeld ?_
                    go_frame
                    refine takeH (i := 15) (some 174) rfl rfl (by kernel_rfl) (by kernel_rfl) (by kernel_rfl) (fun _ _ _ h => h) (by rfl) (fun w hSw => by (try dsimp only at hSw); (obtain ⟨r0, r1⟩ := HX3.out _ hSw; go_simp; try rfl)) hHeld ?_
                    go_frame
                    have HLi : Calls Try.prog 24 #[bptr Kx, .int .i64 (l : Int), Plc 9223372036854775807 9223372036854775807, .int .i64 2000] We.drew fun e w' => ∃ v, e = .returned v ∧ EO EE 107 w' We.drew.heap.size v (lisE S l topP 2000) ∧ Below We.drew.heap.size We.drew w' := balist_any l topP 2000 We.drew (HBX.out _ (ab_trans HVe.out hHeld)) (by rw [HS.out.ba]; omega) (by omega)
                    refine wpAnyH_ready (rs := [12]) (by kernel_rfl) (by simp) (AllReadyH.cons rfl (fun K hK => ?_) AllReadyH.nil)
                    go_simp
                    refine HLi.mono ?_
                    rintro e Z1 ⟨v1, rfl, hO1, bz1⟩
                    show K _ _
                    refine hK.out _ _ (ab_trans hHeld bz1) (fun hHeld => ?_)
                    clear hK K HLi
                    have HLj : Calls Try.prog 24 #[bptr Ky, .int .i64 (l : Int), Plc 9223372036854775807 9223372036854775807, .int .i64 2000] Z1 fun e w' => ∃ v, e = .returned v ∧ EO EE 107 w' Z1.heap.size v (lisE Sy l topP 2000) ∧ Below Z1.heap.size Z1 w' := balist_any l topP 2000 Z1 (HBY.out _ (ab_trans HVe.out hHeld)) (by rw [HS.out.ba']; omega) (by omega)
                    refine wpAnyH_ready (rs := [16]) (by kernel_rfl) (by simp) (AllReadyH.cons rfl (fun K hK => ?_) AllReadyH.nil)
                    go_simp
                    refine HLj.mono ?_
                    rintro e Z2 ⟨v2, rfl, hO2, bz2⟩
                    show K _ _
                    refine hK.out _ _ (ab_trans hHeld bz2) (fun hHeld => ?_)
                    clear hK K HLj
                    refine wpAnyH_ready (rs := [17]) (by kernel_rfl) (by simp) (AllReadyH.cons rfl (fun K hK => ?_) AllReadyH.nil)
                    go_simp
                    refine (sents_yes v1 v2 _ _ Z2 (hO1.keep bz2).er hO2.er (HS.out.lis l topP 2000)).mono ?_
                    rintro e Z3 ⟨rfl, bz3⟩
                    show K _ _
                    refine hK.out _ _ (ab_trans hHeld bz3) (fun hHeld => ?_)
                    clear hK K
                    refine takeH (i := 18) (some 177) rfl rfl (by kernel_rfl) (by kernel_rfl) (by kernel_rfl) (fun _ _ _ h => h) (by rfl) (fun w hSw => by (try dsimp only at hSw); go_simp; try rfl) hHeld ?_
                    go_frame
                    refine takeH (i := 19) (some 178) rfl rfl (by kernel_rfl) (by kernel_rfl) (by kernel_rfl) (fun _ _ _ h => h) (by rfl) (fun w hSw => by (try dsimp only at hSw); go_simp; try rfl) hHeld ?_
                    go_frame
                    refine wpAnyH_done (by kernel_rfl) ?_ _
                    have hVz := ab_trans HVe.out hHeld
                    clear hHeld hO1 hO2 bz1 bz2 bz3 HX1 HX2 HX3
                    go_wp2_with fail
                    go_roundw
                    case rel => exact ⟨l + 1, by omega, by go_num, hVz⟩
                    case measure => simp [intOf]; omega
              · obtain ⟨o, ho⟩ : ∃ o, a[j]? = some o := ⟨a[j]'(by have := HNa.out; omega), List.getElem?_eq_getElem (by have := HNa.out; omega)⟩
                have hji : (j : Int) < (na : Int) := by omega
                obtain ⟨qz, capz, gz, offz, ez, hz1, hz2, hpz, hcz⟩ := (HA.out wr hVw).at
                rw [HNa.out] at ez hpz
                injection ez with ez1 ez2 ez3
                subst ez1
                subst ez3
                clear ez2
                obtain ⟨rfl, hgz⟩ := hpz (by omega)
                have w0 := hcz j o ho 0 _ rfl
                have w1 := hcz j o ho 1 _ rfl
                have w2 := hcz j o ho 2 _ rfl
                have w3 := hcz j o ho 3 _ rfl
                have w4 := hcz j o ho 4 _ rfl
                rw [Nat.add_zero, show E5.k = 5 from rfl] at w0
                rw [show E5.k = 5 from rfl] at w1 w2 w3 w4
                obtain ⟨A7, hE7, hX7, hw7⟩ := blk1 wr #[.int .i64 o.s, .int .i64 o.k, .int .i64 o.t, .int .i64 o.y, .int .i64 o.v] 27
                have v0 : A7.cell? ⟨wr.heap.size, 0, none⟩ = some (.int .i64 o.s) := hX7.at rfl
                have v1 : A7.cell? ⟨wr.heap.size, 1, none⟩ = some (.int .i64 o.k) := hX7.at rfl
                have v2 : A7.cell? ⟨wr.heap.size, 2, none⟩ = some (.int .i64 o.t) := hX7.at rfl
                have v3 : A7.cell? ⟨wr.heap.size, 3, none⟩ = some (.int .i64 o.y) := hX7.at rfl
                have v4 : A7.cell? ⟨wr.heap.size, 4, none⟩ = some (.int .i64 o.v) := hX7.at rfl
                have hF7 : Frm (bk2 Kx Ky) V0 A7 := hF.trans (frm_below hw7)
                obtain ⟨u1, u2, u3, u4⟩ := HCut.out A7 hF7
                have hFd := od_feed0 A7 (hBy.keep hw7) hIy (by rw [List.length_take]; omega) (by have := HNb.out; omega) (HFa.out o (List.mem_of_getElem? ho)) gc _ 4 u1 u2 u4
                rw [← take_snoc ho] at hFd
                have HBX : Hid (Bq A7 w.heap.size Kx S) := hBx.keep hw7
                have HBY : Hid (Bq A7 N0 Ky Sy) := hBy.keep hw7
                have HFF : Hid (Frm (bk2 Kx Ky) V0 A7) := hF7
                unfold opV opA at hFd
                clear hcz hpz ho hz1 hz2 u1 u2 u3 u4 hBx hBy hF hF7 hIy hVw cj hX7 hw7
                go_wp2_with (go_at_call 26; refine hFd.mono ?_; rintro e W5 ⟨S2, T2, rfl, hB2, hI2, hF2⟩)
                have hBx2 := bq_apart' HBX.out HBY.out HxN.out.1 HxN.out.2 hF2
                have hF3 := HFF.out.trans (hF2.mono fun k hk => .inr hk)
                clear hFd hF2 HBX HBY HFF w0 w1 w2 w3 w4 v0 v1 v2 v3 v4 hE7
                go_roundw
                case rel => exact ⟨j + 1, S2, T2, by omega, by go_num, hBx2, hB2, hI2, hF3⟩
                case measure => simp [intOf]; omega
          · obtain ⟨o, ho⟩ : ∃ o, b[j]? = some o := ⟨b[j]'(by have := HNb.out; omega), List.getElem?_eq_getElem (by have := HNb.out; omega)⟩
            have hji : (j : Int) < (nb : Int) := by omega
            obtain ⟨qz, capz, gz, offz, ez, hz1, hz2, hpz, hcz⟩ := (HB.out wr hVw).at
            rw [HNb.out] at ez hpz
            injection ez with ez1 ez2 ez3
            subst ez1
            subst ez3
            clear ez2
            obtain ⟨rfl, hgz⟩ := hpz (by omega)
            have w0 := hcz j o ho 0 _ rfl
            have w1 := hcz j o ho 1 _ rfl
            have w2 := hcz j o ho 2 _ rfl
            have w3 := hcz j o ho 3 _ rfl
            have w4 := hcz j o ho 4 _ rfl
            rw [Nat.add_zero, show E5.k = 5 from rfl] at w0
            rw [show E5.k = 5 from rfl] at w1 w2 w3 w4
            obtain ⟨A7, hE7, hX7, hw7⟩ := blk1 wr #[.int .i64 o.s, .int .i64 o.k, .int .i64 o.t, .int .i64 o.y, .int .i64 o.v] 27
            have v0 : A7.cell? ⟨wr.heap.size, 0, none⟩ = some (.int .i64 o.s) := hX7.at rfl
            have v1 : A7.cell? ⟨wr.heap.size, 1, none⟩ = some (.int .i64 o.k) := hX7.at rfl
            have v2 : A7.cell? ⟨wr.heap.size, 2, none⟩ = some (.int .i64 o.t) := hX7.at rfl
            have v3 : A7.cell? ⟨wr.heap.size, 3, none⟩ = some (.int .i64 o.y) := hX7.at rfl
            have v4 : A7.cell? ⟨wr.heap.size, 4, none⟩ = some (.int .i64 o.v) := hX7.at rfl
            have hF7 : Frm (bk2 Kx Ky) V0 A7 := hF.trans (frm_below hw7)
            obtain ⟨u1, u2, u3, u4⟩ := HCut.out A7 hF7
            have hFd := od_feed1 A7 (hBy.keep hw7) hIy (by simp) (by rw [List.length_take]; omega) (HFb.out o (List.mem_of_getElem? ho)) gc _ 4 u1 u2 u4
            rw [← take_snoc ho] at hFd
            have HBX : Hid (Bq A7 w.heap.size Kx S) := hBx.keep hw7
            have HBY : Hid (Bq A7 N0 Ky Sy) := hBy.keep hw7
            have HFF : Hid (Frm (bk2 Kx Ky) V0 A7) := hF7
            unfold opV opA at hFd
            clear hcz hpz ho hz1 hz2 u1 u2 u3 u4 hBx hBy hF hF7 hIy hVw cj hX7 hw7
            go_wp2_with (go_at_call 26; refine hFd.mono ?_; rintro e W5 ⟨S2, T2, rfl, hB2, hI2, hF2⟩)
            have hBx2 := bq_apart' HBX.out HBY.out HxN.out.1 HxN.out.2 hF2
            have hF3 := HFF.out.trans (hF2.mono fun k hk => .inr hk)
            clear hFd hF2 HBX HBY HFF w0 w1 w2 w3 w4 v0 v1 v2 v3 v4 hE7
            go_roundw
            case rel => exact ⟨j + 1, S2, T2, by omega, by go_num, hBx2, hB2, hI2, hF3⟩
            case measure => simp [intOf]; omega
      · have e1 : ¬ (i : Int) < (na : Int) := by omega
        have e2 : (k : Int) < (nb : Int) := by omega
        have e3 : ¬ (nb : Int) ≤ (k : Int) := by omega
        obtain ⟨o, ho⟩ : ∃ o, b[k]? = some o := ⟨b[k]'(by have := HNb.out; omega), List.getElem?_eq_getElem (by have := HNb.out; omega)⟩
        obtain ⟨qz, capz, gz, offz, ez, hz1, hz2, hpz, hcz⟩ := (HB.out wr hVw).at
        rw [HNb.out] at ez hpz
        injection ez with ez1 ez2 ez3
        subst ez1
        subst ez3
        clear ez2
        obtain ⟨rfl, hgz⟩ := hpz (by omega)
        have w0 := hcz k o ho 0 _ rfl
        have w1 := hcz k o ho 1 _ rfl
        have w2 := hcz k o ho 2 _ rfl
        have w3 := hcz k o ho 3 _ rfl
        have w4 := hcz k o ho 4 _ rfl
        rw [Nat.add_zero, show E5.k = 5 from rfl] at w0
        rw [show E5.k = 5 from rfl] at w1 w2 w3 w4
        obtain ⟨u1, u2, u3, u4⟩ := HCut.out wr hF
        have hFd := od_feed1 wr hBx hI (by rw [List.length_take]; omega) (by rw [List.length_take]; omega) (HFb.out o (List.mem_of_getElem? ho)) gc _ 4 u1 u2 u3
        rw [← take_snoc ho] at hFd
        have HBX : Hid (Bq wr w.heap.size Kx S) := hBx
        have HBY : Hid (Bq wr N0 Ky ods0) := hBy
        have HFF : Hid (Frm (bk2 Kx Ky) V0 wr) := hF
        unfold opV opA at hFd
        clear hcz hpz ho hz1 hz2 u1 u2 u3 u4 hBx hBy hF hI hVw ci
        go_wp2_with (go_at_call 26; refine hFd.mono ?_; rintro e W5 ⟨S2, T2, rfl, hB2, hI2, hF2⟩)
        have hBy2 := bq_apart HBX.out HBY.out HxN.out.1 hF2
        have hF3 := HFF.out.trans (hF2.mono fun k hk => .inl hk)
        clear hFd hF2 HBX HBY HFF w0 w1 w2 w3 w4
        go_roundw
        case rel => exact ⟨i, k + 1, S2, T2, by omega, by omega, by go_num, by go_num, by go_num, hB2, hBy2, hI2, hF3⟩
        case measure => simp [intOf]; omega
    · by_cases ck : k = nb
      · have e1 : (i : Int) < (na : Int) := by omega
        have e3 : (nb : Int) ≤ (k : Int) := by omega
        obtain ⟨o, ho⟩ : ∃ o, a[i]? = some o := ⟨a[i]'(by have := HNa.out; omega), List.getElem?_eq_getElem (by have := HNa.out; omega)⟩
        obtain ⟨qz, capz, gz, offz, ez, hz1, hz2, hpz, hcz⟩ := (HA.out wr hVw).at
        rw [HNa.out] at ez hpz
        injection ez with ez1 ez2 ez3
        subst ez1
        subst ez3
        clear ez2
        obtain ⟨rfl, hgz⟩ := hpz (by omega)
        have w0 := hcz i o ho 0 _ rfl
        have w1 := hcz i o ho 1 _ rfl
        have w2 := hcz i o ho 2 _ rfl
        have w3 := hcz i o ho 3 _ rfl
        have w4 := hcz i o ho 4 _ rfl
        rw [Nat.add_zero, show E5.k = 5 from rfl] at w0
        rw [show E5.k = 5 from rfl] at w1 w2 w3 w4
        obtain ⟨u1, u2, u3, u4⟩ := HCut.out wr hF
        have hFd := od_feed0 wr hBx hI (by rw [List.length_take]; omega) (by rw [List.length_take]; omega) (HFa.out o (List.mem_of_getElem? ho)) gc _ 4 u1 u2 u3
        rw [← take_snoc ho] at hFd
        have HBX : Hid (Bq wr w.heap.size Kx S) := hBx
        have HBY : Hid (Bq wr N0 Ky ods0) := hBy
        have HFF : Hid (Frm (bk2 Kx Ky) V0 wr) := hF
        unfold opV opA at hFd
        clear hcz hpz ho hz1 hz2 u1 u2 u3 u4 hBx hBy hF hI hVw ci
        go_wp2_with (go_at_call 26; refine hFd.mono ?_; rintro e W5 ⟨S2, T2, rfl, hB2, hI2, hF2⟩)
        have hBy2 := bq_apart HBX.out HBY.out HxN.out.1 hF2
        have hF3 := HFF.out.trans (hF2.mono fun k hk => .inl hk)
        clear hFd hF2 HBX HBY HFF w0 w1 w2 w3 w4
        go_roundw
        case rel => exact ⟨i + 1, k, S2, T2, by omega, by omega, by go_num, by go_num, by go_num, hB2, hBy2, hI2, hF3⟩
        case measure => simp [intOf]; omega
      · have e1 : (i : Int) < (na : Int) := by omega
        have e2 : (k : Int) < (nb : Int) := by omega
        have e3 : ¬ (nb : Int) ≤ (k : Int) := by omega
        by_cases ct : i + k < nt
        · have e4 : ((i + k : Nat) : Int) < (nt : Int) := by omega
          obtain ⟨tb, htb⟩ : ∃ tb, ts[i + k]? = some tb := ⟨ts[i + k]'(by have := HT3.out.2.1; omega), List.getElem?_eq_getElem (by have := HT3.out.2.1; omega)⟩
          have e5 := HTu.out wr hVw (i + k) tb htb
          have hq3 := HT3.out.1 (by omega)
          subst hq3
          have hnt : nt ≤ 9223372036854775807 := HT3.out.2.2
          clear htb
          cases tb
          · skip
            obtain ⟨o, ho⟩ : ∃ o, b[k]? = some o := ⟨b[k]'(by have := HNb.out; omega), List.getElem?_eq_getElem (by have := HNb.out; omega)⟩
            obtain ⟨qz, capz, gz, offz, ez, hz1, hz2, hpz, hcz⟩ := (HB.out wr hVw).at
            rw [HNb.out] at ez hpz
            injection ez with ez1 ez2 ez3
            subst ez1
            subst ez3
            clear ez2
            obtain ⟨rfl, hgz⟩ := hpz (by omega)
            have w0 := hcz k o ho 0 _ rfl
            have w1 := hcz k o ho 1 _ rfl
            have w2 := hcz k o ho 2 _ rfl
            have w3 := hcz k o ho 3 _ rfl
            have w4 := hcz k o ho 4 _ rfl
            rw [Nat.add_zero, show E5.k = 5 from rfl] at w0
            rw [show E5.k = 5 from rfl] at w1 w2 w3 w4
            obtain ⟨u1, u2, u3, u4⟩ := HCut.out wr hF
            have hFd := od_feed1 wr hBx hI (by rw [List.length_take]; omega) (by rw [List.length_take]; omega) (HFb.out o (List.mem_of_getElem? ho)) gc _ 4 u1 u2 u3
            rw [← take_snoc ho] at hFd
            have HBX : Hid (Bq wr w.heap.size Kx S) := hBx
            have HBY : Hid (Bq wr N0 Ky ods0) := hBy
            have HFF : Hid (Frm (bk2 Kx Ky) V0 wr) := hF
            unfold opV opA at hFd
            clear hcz hpz ho hz1 hz2 u1 u2 u3 u4 hBx hBy hF hI hVw ci
            go_wp2_with (go_at_call 26; refine hFd.mono ?_; rintro e W5 ⟨S2, T2, rfl, hB2, hI2, hF2⟩)
            have hBy2 := bq_apart HBX.out HBY.out HxN.out.1 hF2
            have hF3 := HFF.out.trans (hF2.mono fun k hk => .inl hk)
            clear hFd hF2 HBX HBY HFF w0 w1 w2 w3 w4
            go_roundw
            case rel => exact ⟨i, k + 1, S2, T2, by omega, by omega, by go_num, by go_num, by go_num, hB2, hBy2, hI2, hF3⟩
            case measure => simp [intOf]; omega
          · skip
            obtain ⟨o, ho⟩ : ∃ o, a[i]? = some o := ⟨a[i]'(by have := HNa.out; omega), List.getElem?_eq_getElem (by have := HNa.out; omega)⟩
            obtain ⟨qz, capz, gz, offz, ez, hz1, hz2, hpz, hcz⟩ := (HA.out wr hVw).at
            rw [HNa.out] at ez hpz
            injection ez with ez1 ez2 ez3
            subst ez1
            subst ez3
            clear ez2
            obtain ⟨rfl, hgz⟩ := hpz (by omega)
            have w0 := hcz i o ho 0 _ rfl
            have w1 := hcz i o ho 1 _ rfl
            have w2 := hcz i o ho 2 _ rfl
            have w3 := hcz i o ho 3 _ rfl
            have w4 := hcz i o ho 4 _ rfl
            rw [Nat.add_zero, show E5.k = 5 from rfl] at w0
            rw [show E5.k = 5 from rfl] at w1 w2 w3 w4
            obtain ⟨u1, u2, u3, u4⟩ := HCut.out wr hF
            have hFd := od_feed0 wr hBx hI (by rw [List.length_take]; omega) (by rw [List.length_take]; omega) (HFa.out o (List.mem_of_getElem? ho)) gc _ 4 u1 u2 u3
            rw [← take_snoc ho] at hFd
            have HBX : Hid (Bq wr w.heap.size Kx S) := hBx
            have HBY : Hid (Bq wr N0 Ky ods0) := hBy
            have HFF : Hid (Frm (bk2 Kx Ky) V0 wr) := hF
            unfold opV opA at hFd
            clear hcz hpz ho hz1 hz2 u1 u2 u3 u4 hBx hBy hF hI hVw ci
            go_wp2_with (go_at_call 26; refine hFd.mono ?_; rintro e W5 ⟨S2, T2, rfl, hB2, hI2, hF2⟩)
            have hBy2 := bq_apart HBX.out HBY.out HxN.out.1 hF2
            have hF3 := HFF.out.trans (hF2.mono fun k hk => .inl hk)
            clear hFd hF2 HBX HBY HFF w0 w1 w2 w3 w4
            go_roundw
            case rel => exact ⟨i + 1, k, S2, T2, by omega, by omega, by go_num, by go_num, by go_num, hB2, hBy2, hI2, hF3⟩
            case measure => simp [intOf]; omega
        · have e4 : ¬ ((i + k : Nat) : Int) < (nt : Int) := by omega
          obtain ⟨o, ho⟩ : ∃ o, b[k]? = some o := ⟨b[k]'(by have := HNb.out; omega), List.getElem?_eq_getElem (by have := HNb.out; omega)⟩
          obtain ⟨qz, capz, gz, offz, ez, hz1, hz2, hpz, hcz⟩ := (HB.out wr hVw).at
          rw [HNb.out] at ez hpz
          injection ez with ez1 ez2 ez3
          subst ez1
          subst ez3
          clear ez2
          obtain ⟨rfl, hgz⟩ := hpz (by omega)
          have w0 := hcz k o ho 0 _ rfl
          have w1 := hcz k o ho 1 _ rfl
          have w2 := hcz k o ho 2 _ rfl
          have w3 := hcz k o ho 3 _ rfl
          have w4 := hcz k o ho 4 _ rfl
          rw [Nat.add_zero, show E5.k = 5 from rfl] at w0
          rw [show E5.k = 5 from rfl] at w1 w2 w3 w4
          obtain ⟨u1, u2, u3, u4⟩ := HCut.out wr hF
          have hFd := od_feed1 wr hBx hI (by rw [List.length_take]; omega) (by rw [List.length_take]; omega) (HFb.out o (List.mem_of_getElem? ho)) gc _ 4 u1 u2 u3
          rw [← take_snoc ho] at hFd
          have HBX : Hid (Bq wr w.heap.size Kx S) := hBx
          have HBY : Hid (Bq wr N0 Ky ods0) := hBy
          have HFF : Hid (Frm (bk2 Kx Ky) V0 wr) := hF
          unfold opV opA at hFd
          clear hcz hpz ho hz1 hz2 u1 u2 u3 u4 hBx hBy hF hI hVw ci
          go_wp2_with (go_at_call 26; refine hFd.mono ?_; rintro e W5 ⟨S2, T2, rfl, hB2, hI2, hF2⟩)
          have hBy2 := bq_apart HBX.out HBY.out HxN.out.1 hF2
          have hF3 := HFF.out.trans (hF2.mono fun k hk => .inl hk)
          clear hFd hF2 HBX HBY HFF w0 w1 w2 w3 w4
          go_roundw
          case rel => exact ⟨i, k + 1, S2, T2, by omega, by omega, by go_num, by go_num, by go_num, hB2, hBy2, hI2, hF3⟩
          case measure => simp [intOf]; omega

theorem walk {W : World} (v1 : Value) (l1 : List Op5) (S1 : ER E5 W v1 l1) (B1 : ∀ o ∈ l1, Fit5 o) (v2 : Value) (l2 : List Op5) (S2 : ER E5 W v2 l2) (B2 : ∀ o ∈ l2, Fit5 o) (q3 : Option Addr) (n3 c3 g3 o3 : Nat) (l3 : List Bool) (S3 : Bs W q3 n3 c3 g3 o3 l3) :
    Calls Try.prog 7 #[v1, v2, .slice q3 n3 c3] W fun e w' => e = .returned (.bool true) ∧ Below W.heap.size W w' := by
  obtain ⟨q1, c1, rfl⟩ := S1.form
  obtain ⟨q2, c2, rfl⟩ := S2.form
  by_cases h : l1.length ≤ 60 ∧ l2.length ≤ 60
  · exact small q1 _ c1 q2 _ c2 q3 n3 c3 g3 o3 l1 l2 l3 W rfl rfl S1 S2 S3 B1 B2 h.1 h.2
  · exact big q1 _ c1 q2 _ c2 q3 n3 c3 W h

theorem own : ownKnob Try.prog.godebug = none := by kernel_rfl
theorem laidOut : laidOutB Try.prog = true := by kernel_rfl

set_option maxRecDepth 100000 in
theorem lifted (os : Os) (started : os.Started) (H : Type) (enc : TypeId × Value → H) :
    ReturnsInHanded {} Try.checked os 7 .any (Rows.basinOrderSpec.pre6 enc Try.prog Try.f7 Rows.basinOrderRow.domain false) (Rows.basinOrderSpec.post enc Try.prog Try.f7 false true false false) := by
  refine returnsInHanded_of_change (C := Try.checked) own started (by kernel_rfl) Try.func7
    (ChangeSpec.witness6 (enc := enc) (C := Try.checked) false ⟨#[], #[.slice none 0 0, .slice none 0 0, .slice none 0 0], []⟩ 8 (by kernel_rfl) (by kernel_rfl) (by kernel_rfl) (by kernel_rfl)) ?_
  intro W base args ds gs before hval0 hW hcnd _
  have hval : ∀ (j : Nat) t v, Try.f7.params[j]? = some t → args[j]? = some v → Value.okWide Try.prog W .any base t v := hval0
  have hW' := hW
  obtain ⟨p, q, hA0, hV, rfl, hfz, hnd⟩ := hW
  have hA : DataW.TrodAll enc Try.prog W 0 (fun _ => true) true Try.f7.params.toList args.toList ds p := hA0
  rw [Try.params7] at hA hval
  obtain ⟨v0, vs0, d0, ds0, p0, q0, hargs, rfl, rfl, h0, r0⟩ := trodAll_cons hA
  obtain ⟨v1, vs1, d1, ds1, p1, q1, rfl, rfl, rfl, h1, r1⟩ := trodAll_cons r0
  obtain ⟨v2, vs2, d2, ds2, p2, q2, rfl, rfl, rfl, h2, r2⟩ := trodAll_cons r1
  obtain ⟨rfl, rfl, rfl⟩ := trodAll_nil r2
  obtain rfl : args = #[v0, v1, v2] := by cases args; simp_all
  obtain ⟨rfl, rfl⟩ := trodVars_none hV
  have k0 := h0
  have lt0 : ∀ x ∈ p0, x.block < W.heap.size := by obtain ⟨m, hm⟩ := k0; exact DataW.trod_lt m _ _ _ hm
  have k1 := h1
  have lt1 : ∀ x ∈ p1, x.block < W.heap.size := by obtain ⟨m, hm⟩ := k1; exact DataW.trod_lt m _ _ _ hm
  have k2 := h2
  have lt2 : ∀ x ∈ p2, x.block < W.heap.size := by obtain ⟨m, hm⟩ := k2; exact DataW.trod_lt m _ _ _ hm
  obtain ⟨l0_, S0_, B0_⟩ := open_ops16 (hval 0 22 v0 rfl rfl) h0
  obtain ⟨l1_, S1_, B1_⟩ := open_ops16 (hval 1 22 v1 rfl rfl) h1
  obtain ⟨sq2_, sn2_, sk2_, sg2_, so2_, sl2_, rfl, Z2_⟩ := open_bools16 (hval 2 80 v2 rfl rfl) h2
  clear hA0 hval0
  refine (walk v0 l0_ S0_ B0_ v1 l1_ S1_ B1_ sq2_ sn2_ sk2_ sg2_ so2_ sl2_ Z2_).mono fun e W' ⟨he, bel⟩ => ?_
  subst he
  exact ⟨_, rfl, _, _, _, [], _, [], hW', trodAll_mk1 (shut_bool Try.underlying4 _), (trodAll_cons_mk (Below.trod laidOut (by kernel_rfl) (of_decide_eq_true (by kernel_rfl)) k0 bel lt0) (trodAll_cons_mk (Below.trod laidOut (by kernel_rfl) (of_decide_eq_true (by kernel_rfl)) k1 bel lt1) (trodAll_cons_mk (Below.trod laidOut (by kernel_rfl) (of_decide_eq_true (by kernel_rfl)) k2 bel lt2) trodAll_mk0))), rfl, bel.frame _, fun h => by cases h⟩

theorem over : Rows.basinOrderRow.holds Try.pinned (OpenSpec.ofChange Rows.basinOrderSpec) :=
  OpenClaim.holds_of_wide 7 Try.f7 rfl rfl rfl rfl rfl rfl rfl ⟨rfl, rfl, rfl, rfl, rfl⟩ rfl rfl rfl rfl rfl (by kernel_rfl) Try.func7 (by kernel_rfl)
    (of_decide_eq_true (by kernel_rfl)) (by unfold Func.isWrapper; first | (rw [if_pos (by decide +kernel)]; kernel_rfl) | (rw [if_neg (by decide +kernel)]; exact ⟨rfl, rfl⟩))
    (fun os started H enc _ => lifted os started H enc)

theorem proved : Rows.BasinOrderSaid := over
end Go.Proofs.Ytoeilckeebojmaa.basinOrder
namespace Go.Proofs.Ytoeilckeebojmaa
theorem basinOrder_holds : Rows.BasinOrderSaid := basinOrder.proved
#print axioms basinOrder_holds
end Go.Proofs.Ytoeilckeebojmaa
