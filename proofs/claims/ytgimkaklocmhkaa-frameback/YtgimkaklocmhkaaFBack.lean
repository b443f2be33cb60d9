/-
  Numbers come back, and what is taken has no other form: estuarylaw04.FrameBack returns true for every input; no condition.
-/
import Derived.Test.YtgimkaklocmhkaaFrE
import Derived.Test.YtgimkaklocmhkaaFrN
import Derived.Test.YtgimkaklocmhkaaFrL
import Derived.ProofKit
import Derived.OpenShut
import Derived.ChangeOld
import Derived.Below
import Derived.Lib.SmallJoins
namespace Go.Proofs.Ytgimkaklocmhkaa.frameBack
open Go.ChangeShapes Go.WideShapes Go.ChangeAt Go.RowKit Go.Joins
set_option linter.unusedVariables false

theorem ints_is (v1 v2 : Value) (l1 l2 : List Int) (w : World) (h1 : Is w v1 l1) (h2 : Is w v2 l2) (hm1 : l1.length ≤ 100000) (hm2 : l2.length ≤ 100000) :
    Calls Try.prog 15 #[v1, v2] w fun e w' => e = .returned (.bool (decide (l1 = l2))) ∧ Below w.heap.size w w' := by
  obtain ⟨q1, c1, g1, o1, rfl, _, _, hp1, hg1, hr1⟩ := h1
  obtain ⟨q2, c2, g2, o2, rfl, _, _, hp2, hg2, hr2⟩ := h2
  exact ints_any q1 g1 o1 c1 _ l1 q2 g2 o2 c2 _ l2 w rfl rfl hm1 hm2 hp1 hp2 hr1 hr2 hg1 hg2
theorem some_n (ns : List Int) (h : In64 ns) : numsR ([] ++ numsB ns) (ns.length : Int) = some ns := numsR_some (nus_put ns h) (.inr (Int.le_refl _))
theorem none_n (ns : List Int) (h : In64 ns) (h0 : 0 < ns.length) : numsR ([] ++ numsB ns) ((ns.length : Int) - 1) = none := by
  rw [List.nil_append, numsR, nus_put ns h, Option.bind_some, if_pos ⟨h0, by omega⟩]
set_option maxRecDepth 100000 in
set_option maxHeartbeats 2000000 in
theorem walk {W : World} (v0 : Value) (ns : List Int) (S0 : Is W v0 ns) (B0 : In64 ns) (v1 : Value) (b : List Nat) (S1 : Sl W v1 b) (B1 : Byt b) :
    Calls Try.prog 7 #[v0, v1] W fun e w' => e = .returned (.bool true) ∧ Below W.heap.size W w' := by
  obtain ⟨q0, c0, g0, o0, e0, -⟩ := id S0
  subst e0
  obtain ⟨q1, c1, e1, -⟩ := id S1
  subst e1
  have HSN : Hid (numsR ([] ++ numsB ns) (ns.length : Int) = some ns) := some_n ns B0
  have HNN : Hid (0 < ns.length → numsR ([] ++ numsB ns) ((ns.length : Int) - 1) = none) := none_n ns B0
  have HB9 : Hid (([] ++ numsB ns).length ≤ 9 * ns.length) := by show _ ≤ _; rw [List.nil_append]; exact numsB_len ns
  have HBy : Hid (Byt ([] ++ numsB ns)) := by rw [List.nil_append]; exact numsB_byt ns
  have HN0 : Hid (ns.length = 0 → numsR ([] ++ numsB ns) ((ns.length : Int) - 1) = some []) := fun h => by
    have : ns = [] := List.eq_nil_of_length_eq_zero h
    subst this
    exact numsR_some nus_nil (.inl rfl)
  have HTB : Hid (nOK b = true → numB (nV b) = b.take (nS b)) := num_back B1
  generalize hPB : [] ++ numsB ns = PB at *
  generalize hn : ns.length = n at *
  go_enter Try.func7, Try.ntmps7
  go_upto_region 3 with (go_at_call 9; refine (alive4_any _).mono ?_; rintro e V1 ⟨rfl, hb1⟩)
  by_cases hbig : 4000 < n
  · go_wp2_with fail
    go_ret
    exact ⟨rfl, hb1⟩
  · have S11 := S1.keep hb1
    have hdb : decide (4000 < (n : Int)) = false := decide_eq_false (by omega)
    go_wp2_with (refine bs_ls rfl rfl [_] [b] (by simp only [List.map_toArray, List.map_cons, List.map_nil]; rfl) (bsl1 _ _ _ _) rfl (by decide) rfl (each1 S11) ?_; intro V2 hls2 hb2 hbk2)
    refine (large_any _ _ _ _ hls2).mono ?_
    rintro e V3 ⟨⟨r, rfl, hr⟩, rfl⟩
    have hbV := ab_trans hb1 hb2
    clear hls2 hbk2 hb1 hb2 S11
    cases r with
    | true =>
      go_wp2_with fail
      go_ret
      exact ⟨rfl, hbV⟩
    | false =>
      obtain ⟨-, htot⟩ := hr rfl
      have hbl : b.length ≤ 65536 := by simpa using htot
      clear hr htot
      generalize hnb : b.length = nb at *
      go_upto_region 6 with (go_at_call 12; refine (put_any _ [] _ ns _ (sl_nil _) (by simp) (S0.keep hbV) (by omega) B0).mono ?_; rw [hPB]; rintro e V4 ⟨v4, rfl, HO4, hb4⟩)
      have hL4 := HB9.out
      go_upto_region 7 with (go_at_call 19; refine (fnums_any _ _ _ _ HO4.sl HBy.out (by omega)).mono ?_; rintro e V5 ⟨hnp, hb5⟩; obtain ⟨v5, rfl, HI5⟩ := hnp.some _ HSN.out; clear hnp)
      have hbV5 := ab_trans hbV (ab_trans hb4 hb5)
      have HDe : Hid (decide (ns = ns) = true) := decide_eq_true rfl
      have h00 := ne00
      go_upto_region 9 with (go_at_call 15; refine (ints_is _ _ ns ns _ HI5.is (S0.keep hbV5) (by omega) (by omega)).mono ?_; rw [HDe.out]; rintro e V6 ⟨rfl, hb6⟩)
      by_cases hn0 : n = 0
      · subst hn0
        go_upto_region 12 with (go_at_call 19; refine (fnums_any _ _ _ _ ((HO4.keep hb5).keep hb6).sl HBy.out (by omega)).mono ?_; rintro e V7 ⟨hnp, hb7⟩; obtain ⟨v7, rfl, HI7⟩ := hnp.some _ (HN0.out rfl); clear hnp)
        have hbV7 := ab_trans hbV5 (ab_trans hb6 hb7)
        have S17 := S1.keep hbV7
        have h33 := ne33
        have h30 := ne30
        clear HO4 HI5 hb4 hb5 hb6 hb7
        cases hok : nOK b with
        | false =>
          go_upto_region 13 with (go_at_call 17; refine (ftake_no _ b _ S17 B1 hok).mono ?_; rintro e V8 ⟨rfl, hb8⟩)
          refine wp_region_below (by kernel_rfl) (by kernel_rfl) ?_
          have HZ := cls_some V8
          repeat (go_big_quiet_step (fail))
          refine wpQuiet_nil ?_
          rintro _ ⟨y, rfl⟩
          obtain ⟨W9, hb9⟩ := y
          dsimp only
          go_wp2_with fail
          go_ret
          exact ⟨rfl, ab_trans hbV7 (ab_trans hb8 hb9)⟩
        | true =>
          have h64 : In64 [nV b] := by
            intro x hx
            simp at hx
            subst hx
            exact unz_in _ (nVal_lt B1 ((nOK_iff b).1 hok).2.1)
          have HEQ : Hid (strB (numsB [nV b]) ++ strB (b.drop (nS b)) = strB b) := by
            show _ = _
            have e : numsB [nV b] = numB (nV b) := by simp [numsB]
            rw [e, HTB.out hok, strB_app, List.take_append_drop]
          have hsz : ¬ 9223372036854775807 < (strB (numsB [nV b])).size + (strB (b.drop (nS b))).size := by
            have h1 : (strB (numsB [nV b])).size = (numsB [nV b]).length := by rw [strB, strOfNums_size, List.length_map]
            have h2 : (strB (b.drop (nS b))).size = (b.drop (nS b)).length := by rw [strB, strOfNums_size, List.length_map]
            have h3 := numsB_len [nV b]
            rw [h1, h2, List.length_drop]
            simp at h3
            omega
          go_upto_region 13 with (go_at_call 17; refine (ftake_ok _ b _ S17 B1 (by omega) hok).mono ?_; rintro e V8 ⟨v8, rfl, HO8, hb8⟩)
          clear hok
          generalize hV : nV b = x at *
          have hS8 := HO8.sl
          have S18 := S17.keep hb8
          have hbV8 := ab_trans hbV7 hb8
          generalize hR : b.drop (nS b) = R at *
          refine wp_region_held_drew (S := fun w' => Below V8.heap.size V8 w') (by kernel_rfl) (ab_drew (Below.refl _ _)) (fun hHeld => ?_)
          refine takeH (i := 0) (some 61) rfl rfl (by kernel_rfl) (by kernel_rfl) (by kernel_rfl) (fun _ _ _ h => h) (by rfl) (fun w hSw => by (try dsimp only at hSw); go_simp; try rfl) hHeld ?_
          go_frame
          refine takeH (i := 1) (some 62) rfl rfl (by kernel_rfl) (by kernel_rfl) (by kernel_rfl) (fun _ _ _ h => h) (by rfl) (fun w hSw => by (try dsimp only at hSw); go_simp; try rfl) hHeld ?_
          go_frame
          refine takeH (i := 2) (some 63) rfl rfl (by kernel_rfl) (by kernel_rfl) (by kernel_rfl) (fun _ _ _ h => h) (by rfl) (fun w hSw => by (try dsimp only at hSw); go_simp; try rfl) hHeld ?_
          go_frame
          refine takeH (i := 3) (some 64) rfl rfl (by kernel_rfl) (by kernel_rfl) (by kernel_rfl) (fun _ _ _ h => h) (by rfl) (fun w hSw => by (try dsimp only at hSw); go_simp; try rfl) hHeld ?_
          go_frame
          refine takeH (i := 7) (some 68) rfl rfl (by kernel_rfl) (by kernel_rfl) (by kernel_rfl) (fun _ _ _ h => h) (by rfl) (fun w hSw => by (try dsimp only at hSw); go_simp; try rfl) hHeld ?_
          go_frame
          refine takeH (i := 8) (some 69) rfl rfl (by kernel_rfl) (by kernel_rfl) (by kernel_rfl) (fun _ _ _ h => h) (by rfl) (fun w hSw => by (try dsimp only at hSw); (have hcc := sl_str (hS8.keep hSw); go_simp; try rfl)) hHeld ?_
          go_frame
          refine takeH (i := 10) (some 71) rfl rfl (by kernel_rfl) (by kernel_rfl) (by kernel_rfl) (fun _ _ _ h => h) (by rfl) (fun w hSw => by (try dsimp only at hSw); go_simp; try rfl) hHeld ?_
          go_frame
          refine takeH (i := 11) (some 72) rfl rfl (by kernel_rfl) (by kernel_rfl) (by kernel_rfl) (fun _ _ _ h => h) (by rfl) (fun w hSw => by (try dsimp only at hSw); (have hcc := sl_str (S18.keep hSw); go_simp; try rfl)) hHeld ?_
          go_frame
          refine wpAnyH_ready (rs := [4]) (by kernel_rfl) (by simp) (AllReadyH.cons rfl (fun K hK => ?_) AllReadyH.nil)
          rw [if_pos (by rfl)]
          refine bs_iW (some 65) rfl rfl [x] (by simp only [List.map_toArray, List.map_cons, List.map_nil]; rfl) (isl1 _ _) rfl (by decide) fun V10 hN10 hb10 => ?_
          refine hK.out _ _ (ab_trans hHeld hb10) (fun hHeld => ?_)
          clear hK K
          go_frame
          refine wpAnyH_ready (rs := [5]) (by kernel_rfl) (by simp) (AllReadyH.cons rfl (fun K hK => ?_) AllReadyH.nil)
          go_simp
          refine (put_any _ [] _ [x] _ (sl_nil _) (by simp) (own_is hN10) (by simp) h64).mono ?_
          rintro e V11 ⟨v11, rfl, HO11, hb11⟩
          show K _ _
          have hS11 := HO11.sl
          refine hK.out _ _ (ab_trans hHeld hb11) (fun hHeld => ?_)
          clear hK K
          refine wpAnyH_ready (rs := [6]) (by kernel_rfl) (by simp) (AllReadyH.cons rfl (fun K hK => ?_) AllReadyH.nil)
          rw [if_pos (by rfl)]
          refine valW (some 67) rfl _ (cv_run (x := .tmp 66) rfl rfl hS11) ?_
          refine hK.out _ _ hHeld (fun hHeld => ?_)
          clear hK K
          go_frame
          refine takeH (i := 9) (some 70) rfl rfl (by kernel_rfl) (by kernel_rfl) (by kernel_rfl) (fun _ _ _ h => h) (by rfl) (fun w hSw => by (try dsimp only at hSw); go_simp; try rfl) hHeld ?_
          go_frame
          rw [HEQ.out]
          refine takeH (i := 12) (some 73) rfl rfl (by kernel_rfl) (by kernel_rfl) (by kernel_rfl) (fun _ _ _ h => h) (by rfl) (fun w hSw => by (try dsimp only at hSw); go_simp; try rfl) hHeld ?_
          go_frame
          refine takeH (i := 13) (some 74) rfl rfl (by kernel_rfl) (by kernel_rfl) (by kernel_rfl) (fun _ _ _ h => h) (by rfl) (fun w hSw => by (try dsimp only at hSw); go_simp; try rfl) hHeld ?_
          go_frame
          refine takeH (i := 14) (some 4) rfl rfl (by kernel_rfl) (by kernel_rfl) (by kernel_rfl) (fun _ _ _ h => h) (by rfl) (fun w hSw => by (try dsimp only at hSw); go_simp; try rfl) hHeld ?_
          go_frame
          refine wpAnyH_done (by kernel_rfl) ?_ _
          go_wp2_with fail
          go_ret
          exact ⟨rfl, ab_trans hbV8 hHeld⟩
      · have hpos : (0 : Int) < (n : Int) := by omega
        have h33a := ne33
        go_upto_region 12 with (go_at_call 19; refine (fnums_any _ _ _ _ ((HO4.keep hb5).keep hb6).sl HBy.out (by omega)).mono ?_; rintro e V7 ⟨hnp, hb7⟩; obtain rfl := hnp.none (HNN.out (by omega)); clear hnp)
        have hbV7 := ab_trans hbV5 (ab_trans hb6 hb7)
        have S17 := S1.keep hbV7
        have h33 := ne33
        have h30 := ne30
        clear HO4 HI5 hb4 hb5 hb6 hb7
        cases hok : nOK b with
        | false =>
          go_upto_region 13 with (go_at_call 17; refine (ftake_no _ b _ S17 B1 hok).mono ?_; rintro e V8 ⟨rfl, hb8⟩)
          refine wp_region_below (by kernel_rfl) (by kernel_rfl) ?_
          have HZ := cls_some V8
          repeat (go_big_quiet_step (fail))
          refine wpQuiet_nil ?_
          rintro _ ⟨y, rfl⟩
          obtain ⟨W9, hb9⟩ := y
          dsimp only
          go_wp2_with fail
          go_ret
          exact ⟨rfl, ab_trans hbV7 (ab_trans hb8 hb9)⟩
        | true =>
          have h64 : In64 [nV b] := by
            intro x hx
            simp at hx
            subst hx
            exact unz_in _ (nVal_lt B1 ((nOK_iff b).1 hok).2.1)
          have HEQ : Hid (strB (numsB [nV b]) ++ strB (b.drop (nS b)) = strB b) := by
            show _ = _
            have e : numsB [nV b] = numB (nV b) := by simp [numsB]
            rw [e, HTB.out hok, strB_app, List.take_append_drop]
          have hsz : ¬ 9223372036854775807 < (strB (numsB [nV b])).size + (strB (b.drop (nS b))).size := by
            have h1 : (strB (numsB [nV b])).size = (numsB [nV b]).length := by rw [strB, strOfNums_size, List.length_map]
            have h2 : (strB (b.drop (nS b))).size = (b.drop (nS b)).length := by rw [strB, strOfNums_size, List.length_map]
            have h3 := numsB_len [nV b]
            rw [h1, h2, List.length_drop]
            simp at h3
            omega
          go_upto_region 13 with (go_at_call 17; refine (ftake_ok _ b _ S17 B1 (by omega) hok).mono ?_; rintro e V8 ⟨v8, rfl, HO8, hb8⟩)
          clear hok
          generalize hV : nV b = x at *
          have hS8 := HO8.sl
          have S18 := S17.keep hb8
          have hbV8 := ab_trans hbV7 hb8
          generalize hR : b.drop (nS b) = R at *
          refine wp_region_held_drew (S := fun w' => Below V8.heap.size V8 w') (by kernel_rfl) (ab_drew (Below.refl _ _)) (fun hHeld => ?_)
          refine takeH (i := 0) (some 61) rfl rfl (by kernel_rfl) (by kernel_rfl) (by kernel_rfl) (fun _ _ _ h => h) (by rfl) (fun w hSw => by (try dsimp only at hSw); go_simp; try rfl) hHeld ?_
          go_frame
          refine takeH (i := 1) (some 62) rfl rfl (by kernel_rfl) (by kernel_rfl) (by kernel_rfl) (fun _ _ _ h => h) (by rfl) (fun w hSw => by (try dsimp only at hSw); go_simp; try rfl) hHeld ?_
          go_frame
          refine takeH (i := 2) (some 63) rfl rfl (by kernel_rfl) (by kernel_rfl) (by kernel_rfl) (fun _ _ _ h => h) (by rfl) (fun w hSw => by (try dsimp only at hSw); go_simp; try rfl) hHeld ?_
          go_frame
          refine takeH (i := 3) (some 64) rfl rfl (by kernel_rfl) (by kernel_rfl) (by kernel_rfl) (fun _ _ _ h => h) (by rfl) (fun w hSw => by (try dsimp only at hSw); go_simp; try rfl) hHeld ?_
          go_frame
          refine takeH (i := 7) (some 68) rfl rfl (by kernel_rfl) (by kernel_rfl) (by kernel_rfl) (fun _ _ _ h => h) (by rfl) (fun w hSw => by (try dsimp only at hSw); go_simp; try rfl) hHeld ?_
          go_frame
          refine takeH (i := 8) (some 69) rfl rfl (by kernel_rfl) (by kernel_rfl) (by kernel_rfl) (fun _ _ _ h => h) (by rfl) (fun w hSw => by (try dsimp only at hSw); (have hcc := sl_str (hS8.keep hSw); go_simp; try rfl)) hHeld ?_
          go_frame
          refine takeH (i := 10) (some 71) rfl rfl (by kernel_rfl) (by kernel_rfl) (by kernel_rfl) (fun _ _ _ h => h) (by rfl) (fun w hSw => by (try dsimp only at hSw); go_simp; try rfl) hHeld ?_
          go_frame
          refine takeH (i := 11) (some 72) rfl rfl (by kernel_rfl) (by kernel_rfl) (by kernel_rfl) (fun _ _ _ h => h) (by rfl) (fun w hSw => by (try dsimp only at hSw); (have hcc := sl_str (S18.keep hSw); go_simp; try rfl)) hHeld ?_
          go_frame
          refine wpAnyH_ready (rs := [4]) (by kernel_rfl) (by simp) (AllReadyH.cons rfl (fun K hK => ?_) AllReadyH.nil)
          rw [if_pos (by rfl)]
          refine bs_iW (some 65) rfl rfl [x] (by simp only [List.map_toArray, List.map_cons, List.map_nil]; rfl) (isl1 _ _) rfl (by decide) fun V10 hN10 hb10 => ?_
          refine hK.out _ _ (ab_trans hHeld hb10) (fun hHeld => ?_)
          clear hK K
          go_frame
          refine wpAnyH_ready (rs := [5]) (by kernel_rfl) (by simp) (AllReadyH.cons rfl (fun K hK => ?_) AllReadyH.nil)
          go_simp
          refine (put_any _ [] _ [x] _ (sl_nil _) (by simp) (own_is hN10) (by simp) h64).mono ?_
          rintro e V11 ⟨v11, rfl, HO11, hb11⟩
          show K _ _
          have hS11 := HO11.sl
          refine hK.out _ _ (ab_trans hHeld hb11) (fun hHeld => ?_)
          clear hK K
          refine wpAnyH_ready (rs := [6]) (by kernel_rfl) (by simp) (AllReadyH.cons rfl (fun K hK => ?_) AllReadyH.nil)
          rw [if_pos (by rfl)]
          refine valW (some 67) rfl _ (cv_run (x := .tmp 66) rfl rfl hS11) ?_
          refine hK.out _ _ hHeld (fun hHeld => ?_)
          clear hK K
          go_frame
          refine takeH (i := 9) (some 70) rfl rfl (by kernel_rfl) (by kernel_rfl) (by kernel_rfl) (fun _ _ _ h => h) (by rfl) (fun w hSw => by (try dsimp only at hSw); go_simp; try rfl) hHeld ?_
          go_frame
          rw [HEQ.out]
          refine takeH (i := 12) (some 73) rfl rfl (by kernel_rfl) (by kernel_rfl) (by kernel_rfl) (fun _ _ _ h => h) (by rfl) (fun w hSw => by (try dsimp only at hSw); go_simp; try rfl) hHeld ?_
          go_frame
          refine takeH (i := 13) (some 74) rfl rfl (by kernel_rfl) (by kernel_rfl) (by kernel_rfl) (fun _ _ _ h => h) (by rfl) (fun w hSw => by (try dsimp only at hSw); go_simp; try rfl) hHeld ?_
          go_frame
          refine takeH (i := 14) (some 4) rfl rfl (by kernel_rfl) (by kernel_rfl) (by kernel_rfl) (fun _ _ _ h => h) (by rfl) (fun w hSw => by (try dsimp only at hSw); go_simp; try rfl) hHeld ?_
          go_frame
          refine wpAnyH_done (by kernel_rfl) ?_ _
          go_wp2_with fail
          go_ret
          exact ⟨rfl, ab_trans hbV8 hHeld⟩

theorem own : ownKnob Try.prog.godebug = none := by kernel_rfl
theorem laidOut : laidOutB Try.prog = true := by kernel_rfl

set_option maxRecDepth 100000 in
theorem lifted (os : Os) (started : os.Started) (H : Type) (enc : TypeId × Value → H) :
    ReturnsInHanded {} Try.checked os 7 .any (Rows.frameBackSpec.pre6 enc Try.prog Try.f7 Rows.frameBackRow.domain false) (Rows.frameBackSpec.post enc Try.prog Try.f7 false true false false) := by
  refine returnsInHanded_of_change (C := Try.checked) own started (by kernel_rfl) Try.func7
    (ChangeSpec.witness6 (enc := enc) (C := Try.checked) false ⟨#[], #[.slice none 0 0, .slice none 0 0], []⟩ 8 (by kernel_rfl) (by kernel_rfl) (by kernel_rfl) (by kernel_rfl)) ?_
  intro W base args ds gs before hval0 hW hcnd _
  have hval : ∀ (j : Nat) t v, Try.f7.params[j]? = some t → args[j]? = some v → Value.okWide Try.prog W .any base t v := hval0
  have hW' := hW
  obtain ⟨p, q, hA0, hV, rfl, hfz, hnd⟩ := hW
  have hA : DataW.TrodAll enc Try.prog W 0 (fun _ => true) true Try.f7.params.toList args.toList ds p := hA0
  rw [Try.params7] at hA hval
  obtain ⟨v0, vs0, d0, ds0, p0, q0, hargs, rfl, rfl, h0, r0⟩ := trodAll_cons hA
  obtain ⟨v1, vs1, d1, ds1, p1, q1, rfl, rfl, rfl, h1, r1⟩ := trodAll_cons r0
  obtain ⟨rfl, rfl, rfl⟩ := trodAll_nil r1
  obtain rfl : args = #[v0, v1] := by cases args; simp_all
  obtain ⟨rfl, rfl⟩ := trodVars_none hV
  have k0 := h0
  have lt0 : ∀ x ∈ p0, x.block < W.heap.size := by obtain ⟨m, hm⟩ := k0; exact DataW.trod_lt m _ _ _ hm
  have k1 := h1
  have lt1 : ∀ x ∈ p1, x.block < W.heap.size := by obtain ⟨m, hm⟩ := k1; exact DataW.trod_lt m _ _ _ hm
  obtain ⟨l0_, S0_, B0_⟩ := open_nums (hval 0 23 v0 rfl rfl) h0
  obtain ⟨l1_, S1_, B1_⟩ := open_bytes (hval 1 22 v1 rfl rfl) h1
  clear hA0 hval0
  refine (walk v0 l0_ S0_ B0_ v1 l1_ S1_ B1_).mono fun e W' ⟨he, bel⟩ => ?_
  subst he
  exact ⟨_, rfl, _, _, _, [], _, [], hW', trodAll_mk1 (shut_bool Try.underlying4 _), (trodAll_cons_mk (Below.trod laidOut (by kernel_rfl) (of_decide_eq_true (by kernel_rfl)) k0 bel lt0) (trodAll_cons_mk (Below.trod laidOut (by kernel_rfl) (of_decide_eq_true (by kernel_rfl)) k1 bel lt1) trodAll_mk0)), rfl, bel.frame _, fun h => by cases h⟩

theorem over : Rows.frameBackRow.holds Try.pinned (OpenSpec.ofChange Rows.frameBackSpec) :=
  OpenClaim.holds_of_wide 7 Try.f7 rfl rfl rfl rfl rfl rfl rfl ⟨rfl, rfl, rfl, rfl, rfl⟩ rfl rfl rfl rfl rfl (by kernel_rfl) Try.func7 (by kernel_rfl)
    (of_decide_eq_true (by kernel_rfl)) (by unfold Func.isWrapper; first | (rw [if_pos (by decide +kernel)]; kernel_rfl) | (rw [if_neg (by decide +kernel)]; exact ⟨rfl, rfl⟩))
    (fun os started H enc _ => lifted os started H enc)

theorem proved : Rows.FrameBackSaid := over
end Go.Proofs.Ytgimkaklocmhkaa.frameBack
namespace Go.Proofs.Ytgimkaklocmhkaa
theorem frameBack_holds : Rows.FrameBackSaid := frameBack.proved
#print axioms frameBack_holds
end Go.Proofs.Ytgimkaklocmhkaa
