/-
  The walk of estuarylaw02.CellNums.
-/
import Derived.Test.YtnppdachbfcfkaaRTake
namespace Go.Proofs.Ytnppdachbfcfkaa
open Go.RowKit
set_option linter.unusedVariables false

set_option maxHeartbeats 1000000 in
theorem cnums_big (c : Nat → Int) (q : Option Addr) (n cap : Nat) (w : World) (h : 2000 < n) : Calls Try.prog 7 #[.agg (CA c), .slice q n cap] w fun e w' => e = .returned (.bool true) ∧ Below w.heap.size w w' := by
  have h' : (2000 : Int) < (n : Int) := by omega
  go_enter Try.func7, Try.ntmps7
  go_upto_region 3 with (go_at_call 9; refine (alive2_any _).mono ?_; rintro e W1 ⟨rfl, hb⟩)
  go_quiet (fail)
  go_wp2_with fail
  go_ret
  exact ⟨rfl, ab_drewN (ab_trans (ab_alloc (Below.refl _ _) _) hb) _⟩

set_option maxRecDepth 100000 in
set_option maxHeartbeats 2000000 in
theorem cnums_small (c : Nat → Int) (q : Option Addr) (g off n cap : Nat) (l : List Int) (w : World) (hc : Wf c) (hn : l.length = n) (hk : n ≤ cap) (h : n ≤ 2000) (hp : 0 < n → q = some ⟨g, off, none⟩) (hg : 0 < n → g < w.heap.size) (hr : IRow w g off l) (hfit : ∀ x ∈ l, Fit x) :
    Calls Try.prog 7 #[.agg (CA c), .slice q n cap] w fun e w' => e = .returned (.bool true) ∧ Below w.heap.size w w' := by
  have h' : decide ((2000 : Int) < (n : Int)) = false := decide_eq_false (by omega)
  have hni : (n : Int) ≤ 2000 := by omega
  have hnl := numsF_len c
  have keep : ∀ W, Below w.heap.size w W → IRow W g off l := fun W hW => irow_keep hr (by omega) hW
  go_enter Try.func7, Try.ntmps7
  go_upto_region 3 with (go_at_call 9; refine (alive2_any _).mono ?_; rintro e W1 ⟨rfl, b1⟩)
  have hX1 : Blk W1 w.heap.size (CA c) 31 := (Blk.new w _ _).keep b1
  have hw1 : Below w.heap.size w W1 := ab_trans (ab_alloc (Below.refl _ _) _) b1
  clear b1
  refine wp_region_held_drew (S := fun w' => Blk w' w.heap.size (CA c) 31 ∧ Below w.heap.size w w') (by kernel_rfl) ⟨hX1.drew, ab_drew hw1⟩ (fun hHeld => ?_)
  refine takeH (i := 0) (some 13) rfl rfl (by kernel_rfl) (by kernel_rfl) (by kernel_rfl) (fun _ _ _ h => h) (by rfl) (fun w hSw => by (try dsimp only at hSw); go_simp; try rfl) hHeld ?_
  go_frame
  refine takeH (i := 1) (some 14) rfl rfl (by kernel_rfl) (by kernel_rfl) (by kernel_rfl) (fun _ _ _ h => h) (by rfl) (fun w hSw => by (try dsimp only at hSw); go_simp; try rfl) hHeld ?_
  go_frame
  refine takeH (i := 2) (some 15) rfl rfl (by kernel_rfl) (by kernel_rfl) (by kernel_rfl) (fun _ _ _ h => h) (by rfl) (fun w hSw => by (try dsimp only at hSw); go_simp; try rfl) hHeld ?_
  go_frame
  refine takeH (i := 3) (some 16) rfl rfl (by kernel_rfl) (by kernel_rfl) (by kernel_rfl) (fun _ _ _ h => h) (by rfl) (fun w hSw => by (try dsimp only at hSw); go_simp; try rfl) hHeld ?_
  go_frame
  refine takeH (i := 4) (some 17) rfl rfl (by kernel_rfl) (by kernel_rfl) (by kernel_rfl) (fun _ _ _ h => h) (by rfl) (fun w hSw => by (try dsimp only at hSw); exact ld_oper rfl rfl hSw.1) hHeld ?_
  go_frame
  refine takeH (i := 6) (some 19) rfl rfl (by kernel_rfl) (by kernel_rfl) (by kernel_rfl) (fun _ _ _ h => h) (by rfl) (fun w hSw => by (try dsimp only at hSw); exact ld_oper rfl rfl hSw.1) hHeld ?_
  go_frame
  refine wpAnyH_ready (rs := [5]) (by kernel_rfl) (by simp) (AllReadyH.cons rfl (fun K hK => ?_) AllReadyH.nil)
  go_simp
  refine (nums_any c _ hc).mono ?_
  rintro e W2 ⟨v2, rfl, hown2, _, b2⟩
  obtain ⟨_, q2, g2, cap2, rfl, hp2, hg2, _, hk2, hr2⟩ := own_irow hown2
  show K _ _
  refine hK.out _ _ ⟨hHeld.1.keep b2, ab_trans hHeld.2 b2⟩ (fun hHeld => ?_)
  clear hK K b2 hown2
  refine wpAnyH_ready (rs := [7]) (by kernel_rfl) (by simp) (AllReadyH.cons rfl (fun K hK => ?_) AllReadyH.nil)
  go_simp
  refine (rnums_any c _ hc).mono ?_
  rintro e W3 ⟨v3, rfl, hown3, _, b3⟩
  obtain ⟨_, q3, g3, cap3, rfl, hp3, hg3, _, hk3, hr3⟩ := own_irow hown3
  have hr2' := irow_keep hr2 hg2 b3
  have hg2' : 0 < (numsF c).length → g2 < W3.heap.size := fun h0 => Nat.lt_of_lt_of_le (hg2 h0) b3.size
  show K _ _
  refine hK.out _ _ ⟨hHeld.1.keep b3, ab_trans hHeld.2 b3⟩ (fun hHeld => ?_)
  clear hK K b3 hown3 hr2 hg2
  refine wpAnyH_ready (rs := [8]) (by kernel_rfl) (by simp) (AllReadyH.cons rfl (fun K hK => ?_) AllReadyH.nil)
  go_simp
  refine (ints_any q2 g2 0 cap2 _ (numsF c) q3 g3 0 cap3 _ (numsF c) _ rfl rfl (by omega) (by omega) hp2 hp3 hr2' hr3 hg2' hg3).mono ?_
  rintro e W4 ⟨rfl, b4⟩
  rw [decide_eq_true (rfl : numsF c = numsF c)]
  show K _ _
  refine hK.out _ _ ⟨hHeld.1.keep b4, ab_trans hHeld.2 b4⟩ (fun hHeld => ?_)
  clear hK K b4 hp2 hp3 hr2' hr3 hg2' hg3 hk2 hk3
  refine takeH (i := 9) (some 22) rfl rfl (by kernel_rfl) (by kernel_rfl) (by kernel_rfl) (fun _ _ _ h => h) (by rfl) (fun w hSw => by (try dsimp only at hSw); go_simp; try rfl) hHeld ?_
  go_frame
  refine takeH (i := 10) (some 23) rfl rfl (by kernel_rfl) (by kernel_rfl) (by kernel_rfl) (fun _ _ _ h => h) (by rfl) (fun w hSw => by (try dsimp only at hSw); go_simp; try rfl) hHeld ?_
  go_frame
  refine wpAnyH_done (by kernel_rfl) ?_ _
  obtain ⟨hX4, hw4⟩ := hHeld
  clear hX1 hw1
  go_upto_region 5 with fail
  obtain ⟨i0, hi, hz0, hz1, hz2⟩ := info_parts infoInt
  go_wp2_with (at_make; refine wpList_make_own _ rfl _ _ 38 rfl W4.heap.size 3 i0 (.int .i64 0) 1 Try.underlying38 hi hz0 hz1 _ _ _ (n + 1) rfl rfl ?d1 ?d2 ?d3 ?d4 ?_)
  case d2 => omega
  case d3 => unfold maxLen; omega
  intro W5 hown5 hgrow5
  have b5 : Below W4.heap.size W4 W5 := (Below.refl _ W4).grown hgrow5 (Nat.le_refl _) (fun r hr => by cases hr)
  clear hgrow5
  have hw5 := ab_trans hw4 b5
  go_wp2_with (at_builtin; refine app_own W4 rfl rfl Try.underlying38 infoInt rfl (by decide) rfl hown5 (ints l) rfl ?c1 ?c2 ?c3 ?c4 ?c5 ?c6 b5 ?_)
  case c1 => intro e; subst e; rcases Nat.eq_zero_or_pos n with h0 | h0
             · exact h0
             · exact absurd (hp h0) (by simp)
  case c2 => simp [ints, hn]
  case c3 =>
    intro ad had j u hu
    have hj : j < l.length := by have := (List.getElem?_eq_some_iff.1 hu).1; rwa [ints_len] at this
    rw [hp (by omega)] at had
    cases had
    rw [ints_at, List.getElem?_eq_getElem hj] at hu
    cases hu
    rw [Addr.add_mid]
    exact keep _ hw5 j _ (List.getElem?_eq_getElem hj)
  case c4 => exact ints_one _
  case c5 => unfold maxLen; omega
  case c6 => omega
  intro v6 W6 hown6 hnil6 b6 _
  clear hnil6
  go_wp2_with (first
    | (refine bs_own rfl rfl [(-77 : Int)] (by simp only [List.map_toArray, List.map_cons, List.map_nil]; rfl) (isl1 _ _) rfl (by decide) ?_; intro W7 hN7 b7 z7; have hown7 := own_keep hown6 b7; have hb7 := ab_trans b6 b7)
    | (at_builtin; refine app_own W4 rfl rfl Try.underlying38 infoInt rfl (by decide) rfl hown7 (ints [(-77 : Int)]) rfl ?c1 ?c2 ?c3 ?c4 ?c5 ?c6 hb7 ?_))
  case c1 => intro e; cases e
  case c2 => simp [ints]
  case c3 => exact own_src hN7
  case c4 => exact ints_one _
  case c5 => unfold maxLen; omega
  case c6 => omega
  intro v8 W8 hown8 hnil8 b8 _
  clear hnil8
  rw [ints_append] at hown8
  obtain ⟨_, q8, gm, capm, rfl, hp8, hg8, _, hk8, hr8⟩ := own_irow hown8
  obtain rfl := hp8 (by omega)
  have hgm := hg8 (by omega)
  have hw8 := ab_trans hw4 b8
  clear hown5 hown6 hown7 hown8 hN7 b5 b6 b7 b8 hb7 z7 hp8 hg8 hw5
  have hnc : n ≤ capm := by omega
  go_upto_region 6 with (refine sl_h (h := n) rfl rfl rfl rfl slc_ints (siz_ints _) hnc ?_)
  have hrm : IRow W8 gm 0 l := by have := irow_take hr8 l.length; rwa [List.take_left] at this
  have hmark : W8.cell? ⟨gm, n, none⟩ = some (.int .i64 (-77)) := by
    have := hr8 n (-77) (by rw [List.getElem?_append_right (by omega), hn, Nat.sub_self]; rfl)
    rwa [Nat.zero_add] at this
  have hX8 : True := trivial
  clear hr8 hX8
  have hnci : (n : Int) + 1 ≤ (capm : Int) := by omega
  rcases take_cases l with hno | ⟨ps, more, nx, h2, hP, hF⟩
  · have HNO : Hid (NoT l) := hno
    clear hno
    go_upto_region 7 with (first
      | (go_at_call 20; refine (take_none (some ⟨gm, 0, none⟩) gm 0 n capm l _ hn (by omega) hnc (fun _ => rfl) (fun _ => hgm) hrm HNO.out).mono ?_; rintro e W9 ⟨rfl, b9⟩; unfold noTake)
      | (refine al_cell rfl rfl ?_; intro WA eA hXa bA; clear eA)
      | (refine st_cell rfl rfl hXa rfl rfl ?_; intro WB hXb CB))
    have bB : Below W8.heap.size W8 WB := ab_chg (ab_trans b9 bA) CB b9.size
    have hwB := ab_trans hw8 bB
    clear b9 bA hXa CB
    generalize W9.heap.size = X at *
    go_upto_region 8 with (first
      | (go_at_call 21; refine (rtake_no q g off n cap l _ hn (by omega) hp (fun h0 => Nat.lt_of_lt_of_le (hg h0) hwB.size) (keep _ hwB) hfit HNO.out).mono ?_; rintro e WC ⟨rfl, bC⟩; unfold rNo)
      | (refine al_cell rfl rfl ?_; intro WD eD hYd bD; clear eD)
      | (refine st_cell rfl rfl hYd rfl rfl ?_; intro WE hYe CE))
    have hXC := hXb.keep bC
    have hXlt := hXC.lt
    have hXe := (hXC.keep bD).chg CE (by omega)
    have bE : Below W8.heap.size W8 WE := ab_chg (ab_trans (ab_trans bB bC) bD) CE (by have := bB.size; have := bC.size; omega)
    have hwE := ab_trans hw8 bE
    have hrE := irow_keep2 hrm hgm bE
    have hme := (bE.cell (p := ⟨gm, n, none⟩) hgm).trans hmark
    have hgE : gm < WE.heap.size := Nat.lt_of_lt_of_le hgm bE.size
    clear bC bD CE hYd hXb hXC hXlt bB hwB
    generalize WC.heap.size = Y at *
    go_upto_region 10 with (first
      | (refine val_step rfl _ (ld_oper rfl rfl hXe) ?_)
      | (refine val_step rfl _ (ld_oper rfl rfl hYe) ?_)
      | (refine val_step rfl _ (cneq_oper rfl rfl rfl (eqC_refl _) _) ?_)
      | (go_at_call 17; refine (ints_any (some ⟨gm, 0, none⟩) gm 0 capm n l q g off cap n l _ hn hn (by omega) (by omega) (fun _ => rfl) hp hrE (keep _ hwE) (fun _ => hgE) (fun h0 => Nat.lt_of_lt_of_le (hg h0) hwE.size)).mono ?_; rintro e WF ⟨rfl, bF⟩; rw [decide_eq_true (rfl : l = l)]; have hmf := (bF.cell (p := ⟨gm, n, none⟩) hgE).trans hme; have hwF := ab_trans hwE bF))
    go_wp2_with fail
    go_ret
    exact ⟨rfl, hwF⟩
  · have h10 : 10 ≤ n := by have := hP.len; omega
    obtain rfl := hp (by omega)
    have hg0 := hg (by omega)
    have hrest := hP.rest
    have hlr := congrArg List.length hrest
    rw [List.length_drop, List.length_append, flatP_len, hn] at hlr
    have hdr : l.drop (10 + 2 * ps.length) = more := by rw [← List.drop_drop, hrest, ← flatP_len ps, List.drop_left]
    have HP : Hid (Parts l ps more) := hP
    have HF : Hid (foldH ps = some (nx, h2)) := hF
    have HRT : Hid (∀ W, Below w.heap.size w W → Calls Try.prog 21 #[.slice (some ⟨g, off, none⟩) n cap] W fun e w' => e = .returned (.tuple #[.agg (CA (cellOf l h2)), .int .i64 ((10 + 2 * ps.length : Nat) : Int)]) ∧ Below W.heap.size W w') := fun W hW => rtake_yes g off n cap l ps more nx h2 W hn (by omega) (Nat.lt_of_lt_of_le hg0 hW.size) (keep _ hW) hP hfit hF
    have hNn : 10 + 2 * ps.length ≤ n := by omega
    have hml : more.length = n - (10 + 2 * ps.length) := by omega
    have hN10 : 10 ≤ 10 + 2 * ps.length := by omega
    clear hP hF hrest hlr
    generalize 10 + 2 * ps.length = N at *
    have HML : Hid (more.length = n - N) := hml
    have HDR : Hid (l.drop N = more) := hdr
    have hm2 : more.length ≤ 2000 := by omega
    have hN0 : 0 < N := by omega
    have hN0i : (0 : Int) < (N : Int) := by omega
    clear hml hdr
    go_upto_region 7 with (first
      | (go_at_call 20; refine (take_yes gm 0 n capm l ps more nx h2 _ hn (by omega) hnc h10 hgm hrm HP.out HF.out).mono ?_; rintro e W9 ⟨v9, rfl, hown9, b9⟩; obtain ⟨_, q9, g9, cap9, rfl, hp9, hg9, _, hk9, hr9⟩ := own_irow hown9)
      | (refine al_cell rfl rfl ?_; intro WA eA hXa bA; clear eA)
      | (refine st_cell rfl rfl hXa rfl rfl ?_; intro WB hXb CB))
    have bB : Below W8.heap.size W8 WB := ab_chg (ab_trans b9 bA) CB b9.size
    have b9B : Below W9.heap.size W9 WB := ab_chg bA CB (Nat.le_refl _)
    have hwB := ab_trans hw8 bB
    clear b9 bA hXa CB hown9
    go_upto_region 8 with (first
      | (go_at_call 21; refine (HRT.out _ hwB).mono ?_; rintro e WC ⟨rfl, bC⟩)
      | (refine al_cell rfl rfl ?_; intro WD eD hYd bD; clear eD)
      | (refine st_cell rfl rfl hYd rfl rfl ?_; intro WE hYe CE))
    have hXC := hXb.keep bC
    have hXlt := hXC.lt
    have hXe := (hXC.keep bD).chg CE (by omega)
    have bE : Below W8.heap.size W8 WE := ab_chg (ab_trans (ab_trans bB bC) bD) CE (by have := bB.size; have := bC.size; omega)
    have b9E : Below W9.heap.size W9 WE := ab_chg (ab_trans (ab_trans b9B bC) bD) CE (by have := b9B.size; have := bC.size; omega)
    have hwE := ab_trans hw8 bE
    have hrE := irow_keep2 hrm hgm bE
    have hme := (bE.cell (p := ⟨gm, n, none⟩) hgm).trans hmark
    have hgE : gm < WE.heap.size := Nat.lt_of_lt_of_le hgm bE.size
    have hr9E := irow_keep hr9 hg9 b9E
    have hg9E : 0 < more.length → g9 < WE.heap.size := fun h0 => Nat.lt_of_lt_of_le (hg9 h0) b9E.size
    clear bC bD CE hYd hXb hXC hXlt bB hwB hr9 hg9 b9B b9E HRT
    generalize W9.heap.size = X at *
    generalize WC.heap.size = Y at *
    go_upto_region 12 with (first
      | (refine val_step rfl _ (ld_oper rfl rfl hXe) ?_)
      | (refine val_step rfl _ (ld_oper rfl rfl hYe) ?_)
      | (refine val_step rfl _ (cneq_oper rfl rfl rfl (eqC_refl _) _) ?_)
      | (go_at_call 17; refine (ints_any (some ⟨gm, 0, none⟩) gm 0 capm n l (some ⟨g, off, none⟩) g off cap n l _ hn hn (by omega) (by omega) (fun _ => rfl) (fun _ => rfl) hrE (keep _ hwE) (fun _ => hgE) (fun h0 => Nat.lt_of_lt_of_le hg0 hwE.size)).mono ?_; rintro e WF ⟨rfl, bF⟩; rw [decide_eq_true (rfl : l = l)]; have hmf := (bF.cell (p := ⟨gm, n, none⟩) hgE).trans hme; have hwF := ab_trans hwE bF))
    have hr9F := irow_keep hr9E hg9E bF
    have hg9F : 0 < more.length → g9 < WF.heap.size := fun h0 => Nat.lt_of_lt_of_le (hg9E h0) bF.size
    clear hmf hme hrE hXe hYe
    go_wp2_with (refine sl_l rfl rfl rfl rfl slc_ints (siz_ints _) hNn hk ?_; intro o' cp ho hcp; clear hcp; have HO : Hid (0 < n - N → o' = off + N * 1) := ho; clear ho)
    have hrl : IRow WF g o' more := by
      by_cases c : 0 < n - N
      · rw [HO.out c, ← HDR.out, Nat.mul_one]; exact irow_drop (keep _ hwF) N
      · intro j x hx
        have := (List.getElem?_eq_some_iff.1 hx).1
        rw [HML.out] at this; omega
    refine (ints_any q9 g9 0 cap9 more.length more (some ⟨g, o', none⟩) g o' cp (n - N) more _ rfl HML.out (by omega) (by omega) hp9 (fun _ => rfl) hr9F hrl hg9F (fun h0 => Nat.lt_of_lt_of_le hg0 hwF.size)).mono ?_
    rintro e WG ⟨rfl, bG⟩
    rw [decide_eq_true (rfl : more = more)]
    go_wp2_with fail
    go_ret
    exact ⟨rfl, ab_trans hwF bG⟩
end Go.Proofs.Ytnppdachbfcfkaa
