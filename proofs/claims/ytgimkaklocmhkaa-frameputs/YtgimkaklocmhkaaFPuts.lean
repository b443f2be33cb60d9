/-
  What bytes numbers have, behind any bytes: estuarylaw04.FramePuts returns true for every input; no condition.
-/
import Derived.Test.YtgimkaklocmhkaaFrE
import Derived.Test.YtgimkaklocmhkaaFrW
import Derived.Test.YtgimkaklocmhkaaFrR
import Derived.Test.YtgimkaklocmhkaaFrL
import Derived.ProofKit
import Derived.OpenShut
import Derived.ChangeOld
import Derived.Below
import Derived.Lib.SmallJoins
namespace Go.Proofs.Ytgimkaklocmhkaa.framePuts
open Go.ChangeShapes Go.WideShapes Go.ChangeAt Go.RowKit Go.Joins
set_option linter.unusedVariables false

theorem ints_is (v1 v2 : Value) (l1 l2 : List Int) (w : World) (h1 : Is w v1 l1) (h2 : Is w v2 l2) (hm1 : l1.length ≤ 100000) (hm2 : l2.length ≤ 100000) :
    Calls Try.prog 15 #[v1, v2] w fun e w' => e = .returned (.bool (decide (l1 = l2))) ∧ Below w.heap.size w w' := by
  obtain ⟨q1, c1, g1, o1, rfl, _, _, hp1, hg1, hr1⟩ := h1
  obtain ⟨q2, c2, g2, o2, rfl, _, _, hp2, hg2, hr2⟩ := h2
  exact ints_any q1 g1 o1 c1 _ l1 q2 g2 o2 c2 _ l2 w rfl rfl hm1 hm2 hp1 hp2 hr1 hr2 hg1 hg2
theorem eltI : Try.prog.underlying 23 = some (.slice (Try.prog.elem 23)) := by kernel_rfl
theorem sizeI (w : World) : (sizeOf (Try.prog.elem 23)).run Try.prog w = .ok 1 w := by kernel_rfl
theorem io_empty {W : World} {base : Nat} {v : Value} (h : W.ownsRow base 3 1 v 0 []) : W.ownsRow base 3 1 v 0 (ints []) := h
theorem slI_run {o : Oper} {w : World} {ρ : Operand → Value} {x z : Operand} (ho : o.op = .slice 23 x none (some z) none) {g n cap j : Nat} {J : Int} {kj : IntKind}
    (hx : ρ x = .slice (some ⟨g, 0, none⟩) n cap) (hz : ρ z = .int kj J) (hJ : J = (j : Int)) (h2 : j ≤ cap) : (execOp ρ o).run Try.prog w = .ok (.value (.slice (some ⟨g, 0, none⟩) j cap)) w := by
  subst hJ
  unfold execOp
  simp only [ho, hx, hz, Option.map_some, Option.map_none, Sem.run_bind, run_sliceAt_slice w 23 _ _ _ _ eltI, run_slice_h w 23 (some ⟨g, 0, none⟩) n cap eltI _ (j : Int) (by omega) (by omega), sizeI, Result.andThen_ok, Sem.run_pure, Int.toNat_natCast, sliced, Nat.zero_mul, Option.map_some, Addr.add_mid, Nat.add_zero, ite_self, Nat.sub_zero]
set_option maxRecDepth 100000 in
set_option maxHeartbeats 2000000 in
theorem walk {W : World} (v0 : Value) (b : List Nat) (S0 : Sl W v0 b) (B0 : Byt b) (v1 : Value) (ns : List Int) (S1 : Is W v1 ns) (B1 : In64 ns) :
    Calls Try.prog 3 #[v0, v1] W fun e w' => e = .returned (.bool true) ∧ Below W.heap.size W w' := by
  obtain ⟨q1, c1, g1, o1, e1, -⟩ := id S1
  subst e1
  obtain ⟨q0, c0, e0, -⟩ := id S0
  subst e0
  generalize hn : ns.length = n at *
  go_enter Try.func3, Try.ntmps3
  go_upto_region 3 with (go_at_call 9; refine (alive4_any _).mono ?_; rintro e V1 ⟨rfl, hb1⟩)
  have S01 := S0.keep hb1
  go_wp2_with (refine bs_ls rfl rfl [_] [b] (by simp only [List.map_toArray, List.map_cons, List.map_nil]; rfl) (bsl1 _ _ _ _) rfl (by decide) rfl (each1 S01) ?_; intro V2 hls2 hb2 hbk2)
  refine (large_any _ _ _ _ hls2).mono ?_
  rintro e V3 ⟨⟨r, rfl, hr⟩, rfl⟩
  have hbV := ab_trans hb1 hb2
  clear hls2 hbk2 hb1 hb2 S01
  cases r with
  | true =>
    go_wp2_with fail
    go_ret
    exact ⟨rfl, hbV⟩
  | false =>
    obtain ⟨-, htot⟩ := hr rfl
    have hbl : b.length ≤ 65536 := by simpa using htot
    clear hr htot
    generalize hnb : b.length = nb at *
    by_cases hbig : 4000 < n
    · have hdb : decide (4000 < (n : Int)) = true := decide_eq_true (by omega)
      go_wp2_with fail
      go_ret
      exact ⟨rfl, hbV⟩
    · have hdb : decide (4000 < (n : Int)) = false := decide_eq_false (by omega)
      go_upto_region 6 with (go_at_call 11; refine (copy_any _ b _ (S0.keep hbV) (by omega)).mono ?_; rintro e V4 ⟨v4, rfl, HC4, hb4⟩)
      have S14 := S1.keep (ab_trans hbV hb4)
      go_upto_region 7 with (first
        | (refine mk_own (c := n + 1) V4 rfl rfl Try.underlying23 infoInt rfl rfl (by omega) (by omega) (by unfold maxLen; omega) (Below.refl _ _) ?_; intro v5 V5 hown5 hv5 hb5 hb5')
        | (at_builtin; refine app_i V4 rfl rfl rfl (io_empty hown5) rfl (S14.keep hb5) hn (by omega) hb5 ?_; intro v6 V6 hown6 hnil6 hb6 hgr6 hat6)
        | (refine bs_own rfl rfl [-77] (by simp only [List.map_toArray, List.map_cons, List.map_nil]; rfl) (isl1 _ _) rfl (by decide) ?_; intro V7 hN7 hb7 z7)
        | (at_builtin; refine app_i V4 rfl rfl rfl (own_keep hown6 hb7) rfl (own_is hN7) rfl (by show 0 + n + 1 ≤ _; omega) (ab_trans hb6 hb7) ?_; intro v8 V8 hown8 hnil8 hb8 hgr8 hat8; obtain ⟨g8, cap8, e8, -, hg8, hc8, hm8, hcl8⟩ := own_cells hown8 (fun e => by have h5 := (hnil8.1 e).1; exact hv5 ((hnil6.1 h5).1)); subst e8)
        | (refine sl_h rfl rfl (h := n) rfl rfl eltI (sizeI _) (by have : 0 + n + 1 ≤ cap8 := hc8; omega) ?_))
      have hc8' : n + 1 ≤ cap8 := by have : 0 + n + 1 ≤ cap8 := hc8; omega
      have hir : IRow V8 g8 0 (ns ++ [-77]) := fun j x hx => by rw [Nat.zero_add]; exact hcl8 j _ (by rw [List.nil_append, ints_at, hx]; rfl)
      have I8 : Is V8 (.slice (some ⟨g8, 0, none⟩) n cap8) ns := ⟨_, cap8, g8, 0, by rw [hn], by omega, hm8, fun _ => rfl, fun _ => hg8, fun j x hx => hir j x (by rw [List.getElem?_append_left (List.getElem?_eq_some_iff.1 hx).1]; exact hx)⟩
      have d77 : V8.cell? ⟨g8, n, none⟩ = some (.int .i64 (-77)) := by
        have := hir n (-77) (by rw [List.getElem?_append_right (by omega), hn]; simp)
        rwa [Nat.zero_add] at this
      have HC8 := HC4.keep hb8
      clear hown5 hv5 hb5 hb5' hown6 hnil6 hb6 hgr6 hat6 hN7 hb7 z7 hown8 hnil8 hgr8 hat8 hc8 hcl8 hir S14
      go_upto_region 8 with (go_at_call 12; refine (put_any _ b _ ns _ HC8.ow.sl (by omega) I8 (by omega) B1).mono ?_; rintro e V9 ⟨v9, rfl, HO9, hb9⟩)
      obtain ⟨q9, c9, e9⟩ := HO9.form
      obtain ⟨g4, cap4, e4, -⟩ := id HC4
      subst e4
      have hb39 := ab_trans hb4 (ab_trans hb8 hb9)
      have HC9 := HC8.keep hb9
      have I9 := I8.keep hb9
      have S09 := S0.keep (ab_trans hbV hb39)
      have S19 := S1.keep (ab_trans hbV hb39)
      have d9 := keep_cell hb9 d77 hg8
      have hg9 := Nat.lt_of_lt_of_le hg8 hb9.size
      have HLt : Hid ((b ++ numsB ns).length ≤ 1000000) := by
        have := numsB_len ns
        show _ ≤ _
        rw [List.length_append]
        omega
      have HLt2 : Hid (∀ l ∈ [b ++ numsB ns, b], l.length ≤ 110000) := by
        have := numsB_len ns
        intro l hl
        simp at hl
        rcases hl with rfl | rfl
        · rw [List.length_append]; omega
        · omega
      have HDe : Hid (decide (ns = ns) = true) := decide_eq_true rfl
      have hOv9 := HO9
      rw [e9] at HO9
      subst e9
      generalize hnO : (b ++ numsB ns).length = nO at *
      rw [hnb] at HC4 HC8 HC9
      clear HC4 I8 d77 hOv9
      have HBag : Hid (∀ W', Below V9.heap.size V9 W' → Bag W' V3.heap.size [.slice q9 nO c9, .slice (some ⟨g4, 0, none⟩) nb cap4] [b ++ numsB ns, b]) := fun W' h => (bag_snoc (bag1 (HO9.less (Nat.le_trans hb4.size hb8.size))) HC9.ow (fun x hx => by simp at hx; subst hx; exact (sep_new HC8.ow HO9 (Nat.le_refl _)).symm)).keep h
      clear S0 S1 HC8 hb4 hb8 hb9 hm8 B0 hdb HLt
      have hcw : Below V9.heap.size V9 V9.drew := (Below.refl _ _).drew
      refine wp_region_held_drew (S := fun w' => Below V3.heap.size V3 w') (by kernel_rfl) (ab_drew hb39) (fun hHeld => ?_)
      refine takeH (i := 0) (some 34) rfl rfl (by kernel_rfl) (by kernel_rfl) (by kernel_rfl) (fun _ _ _ h => h) (by rfl) (fun w hSw => by (try dsimp only at hSw); go_simp; try rfl) hHeld ?_
      go_frame
      refine takeH (i := 2) (some 36) rfl rfl (by kernel_rfl) (by kernel_rfl) (by kernel_rfl) (fun _ _ _ h => h) (by rfl) (fun w hSw => by (try dsimp only at hSw); go_simp; try rfl) hHeld ?_
      go_frame
      refine takeH (i := 3) (some 37) rfl rfl (by kernel_rfl) (by kernel_rfl) (by kernel_rfl) (fun _ _ _ h => h) (by rfl) (fun w hSw => by (try dsimp only at hSw); go_simp; try rfl) hHeld ?_
      go_frame
      refine wpAnyH_ready (rs := [1, 4]) (by kernel_rfl) (by simp) (AllReadyH.cons rfl (fun K hK => ?_) (AllReadyH.cons rfl (fun K hK => ?_) AllReadyH.nil))
      · rw [if_pos (by rfl)]
        refine valW (some 35) rfl _ (cv_run (x := .tmp 34) rfl rfl (HO9.sl.keep hcw)) ?_
        refine hK.out _ _ hHeld (fun hHeld => ?_)
        clear hK K
        go_frame
        refine wpAnyH_ready (rs := [4]) (by kernel_rfl) (by simp) (AllReadyH.cons rfl (fun K hK => ?_) AllReadyH.nil)
        go_simp
        refine (put_ref _ b _ ns _ (S09.keep hcw) (by omega) (S19.keep hcw) (by omega) B1).mono ?_
        rintro e V10 ⟨v10, rfl, HO10, hb10⟩
        show K _ _
        have hcw := ab_trans hcw hb10
        refine hK.out _ _ (ab_trans hHeld hb10) (fun hHeld => ?_)
        clear hK K
        refine wpAnyH_ready (rs := [5]) (by kernel_rfl) (by simp) (AllReadyH.cons rfl (fun K hK => ?_) AllReadyH.nil)
        rw [if_pos (by rfl)]
        refine valW (some 39) rfl _ (cv_run (x := .tmp 38) rfl rfl HO10.sl) ?_
        refine hK.out _ _ hHeld (fun hHeld => ?_)
        clear hK K
        go_frame
        refine takeH (i := 6) (some 40) rfl rfl (by kernel_rfl) (by kernel_rfl) (by kernel_rfl) (fun _ _ _ h => h) (by rfl) (fun w hSw => by (try dsimp only at hSw); go_simp; try rfl) hHeld ?_
        go_frame
        refine takeH (i := 7) (some 41) rfl rfl (by kernel_rfl) (by kernel_rfl) (by kernel_rfl) (fun _ _ _ h => h) (by rfl) (fun w hSw => by (try dsimp only at hSw); go_simp; try rfl) hHeld ?_
        go_frame
        refine takeH (i := 8) (some 42) rfl rfl (by kernel_rfl) (by kernel_rfl) (by kernel_rfl) (fun _ _ _ h => h) (by rfl) (fun w hSw => by (try dsimp only at hSw); go_simp; try rfl) hHeld ?_
        go_frame
        refine takeH (i := 9) (some 43) rfl rfl (by kernel_rfl) (by kernel_rfl) (by kernel_rfl) (fun _ _ _ h => h) (by rfl) (fun w hSw => by (try dsimp only at hSw); go_simp; try rfl) hHeld ?_
        go_frame
        refine wpAnyH_ready (rs := [10]) (by kernel_rfl) (by simp) (AllReadyH.cons rfl (fun K hK => ?_) AllReadyH.nil)
        go_simp
        refine (kept_any _ _ b V3.heap.size _ (HC9.keep hcw) (S09.keep hcw) (by omega)).mono ?_
        rintro e V11 ⟨rfl, rfl⟩
        show K _ _
        refine hK.out _ _ hHeld (fun hHeld => ?_)
        clear hK K
        refine takeH (i := 11) (some 45) rfl rfl (by kernel_rfl) (by kernel_rfl) (by kernel_rfl) (fun _ _ _ h => h) (by rfl) (fun w hSw => by (try dsimp only at hSw); go_simp; try rfl) hHeld ?_
        go_frame
        refine takeH (i := 12) (some 46) rfl rfl (by kernel_rfl) (by kernel_rfl) (by kernel_rfl) (fun _ _ _ h => h) (by rfl) (fun w hSw => by (try dsimp only at hSw); go_simp; try rfl) hHeld ?_
        go_frame
        refine takeH (i := 13) (some 47) rfl rfl (by kernel_rfl) (by kernel_rfl) (by kernel_rfl) (fun _ _ _ h => h) (by rfl) (fun w hSw => by (try dsimp only at hSw); go_simp; try rfl) hHeld ?_
        go_frame
        refine takeH (i := 14) (some 48) rfl rfl (by kernel_rfl) (by kernel_rfl) (by kernel_rfl) (fun _ _ _ h => h) (by rfl) (fun w hSw => by (try dsimp only at hSw); go_simp; try rfl) hHeld ?_
        go_frame
        refine wpAnyH_ready (rs := [15]) (by kernel_rfl) (by simp) (AllReadyH.cons rfl (fun K hK => ?_) AllReadyH.nil)
        go_simp
        refine (ints_is _ _ ns ns _ (I9.keep hcw) (S19.keep hcw) (by omega) (by omega)).mono ?_
        rw [HDe.out]
        rintro e V12 ⟨rfl, hb12⟩
        show K _ _
        have hcw2 := ab_trans hcw hb12
        refine hK.out _ _ (ab_trans hHeld hb12) (fun hHeld => ?_)
        clear hK K
        refine takeH (i := 16) (some 50) rfl rfl (by kernel_rfl) (by kernel_rfl) (by kernel_rfl) (fun _ _ _ h => h) (by rfl) (fun w hSw => by (try dsimp only at hSw); go_simp; try rfl) hHeld ?_
        go_frame
        refine takeH (i := 17) (some 51) rfl rfl (by kernel_rfl) (by kernel_rfl) (by kernel_rfl) (fun _ _ _ h => h) (by rfl) (fun w hSw => by (try dsimp only at hSw); go_simp; try rfl) hHeld ?_
        go_frame
        refine takeH (i := 18) (some 52) rfl rfl (by kernel_rfl) (by kernel_rfl) (by kernel_rfl) (fun _ _ _ h => h) (by rfl) (fun w hSw => by (try dsimp only at hSw); go_simp; try rfl) hHeld ?_
        go_frame
        refine takeH (i := 19) (some 53) rfl rfl (by kernel_rfl) (by kernel_rfl) (by kernel_rfl) (fun _ _ _ h => h) (by rfl) (fun w hSw => by (try dsimp only at hSw); go_simp; try rfl) hHeld ?_
        go_frame
        refine takeH (i := 20) (some 54) rfl rfl (by kernel_rfl) (by kernel_rfl) (by kernel_rfl) (fun _ _ _ h => h) (by rfl) (fun w hSw => by (try dsimp only at hSw); go_simp; try rfl) hHeld ?_
        go_frame
        refine takeH (i := 21) (some 55) rfl rfl (by kernel_rfl) (by kernel_rfl) (by kernel_rfl) (fun _ _ _ h => h) (by rfl) (fun w hSw => by (try dsimp only at hSw); go_simp; try rfl) hHeld ?_
        go_frame
        refine takeH (i := 22) (some 56) rfl rfl (by kernel_rfl) (by kernel_rfl) (by kernel_rfl) (fun _ _ _ h => h) (by rfl) (fun w hSw => by (try dsimp only at hSw); exact slI_run (j := n + 1) rfl rfl rfl (by rw [IntWalk.i64_left]; unfold wrap64; omega) hc8') hHeld ?_
        go_frame
        refine takeH (i := 23) (some 57) rfl rfl (by kernel_rfl) (by kernel_rfl) (by kernel_rfl) (fun _ _ _ h => h) (by rfl) (fun w hSw => by (try dsimp only at hSw); go_simp; try rfl) hHeld ?_
        go_frame
        refine takeH (i := 24) (some 58) rfl rfl (by kernel_rfl) (by kernel_rfl) (by kernel_rfl) (fun _ _ _ h => h) (by rfl) (fun w hSw => by (try dsimp only at hSw); go_simp; try rfl) hHeld ?_
        go_frame
        refine takeH (i := 25) (some 59) rfl rfl (by kernel_rfl) (by kernel_rfl) (by kernel_rfl) (fun _ _ _ h => h) (by rfl) (fun w hSw => by (try dsimp only at hSw); (go_simp; rw [if_pos (by omega)])) hHeld ?_
        go_frame
        refine wpAnyH_ready (rs := [26]) (by kernel_rfl) (by simp) (AllReadyH.cons rfl (fun K hK => ?_) AllReadyH.nil)
        rw [if_pos (by rfl)]
        refine valW (some 60) rfl (.int .i64 (-77)) (by have dcw := keep_cell hcw2 d9 hg9; go_simp) ?_
        refine hK.out _ _ hHeld (fun hHeld => ?_)
        clear hK K
        go_frame
        refine takeH (i := 27) (some 61) rfl rfl (by kernel_rfl) (by kernel_rfl) (by kernel_rfl) (fun _ _ _ h => h) (by rfl) (fun w hSw => by (try dsimp only at hSw); go_simp; try rfl) hHeld ?_
        go_frame
        refine takeH (i := 28) (some 62) rfl rfl (by kernel_rfl) (by kernel_rfl) (by kernel_rfl) (fun _ _ _ h => h) (by rfl) (fun w hSw => by (try dsimp only at hSw); go_simp; try rfl) hHeld ?_
        go_frame
        refine takeH (i := 29) (some 63) rfl rfl (by kernel_rfl) (by kernel_rfl) (by kernel_rfl) (fun _ _ _ h => h) (by rfl) (fun w hSw => by (try dsimp only at hSw); go_simp; try rfl) hHeld ?_
        go_frame
        refine takeH (i := 30) (some 64) rfl rfl (by kernel_rfl) (by kernel_rfl) (by kernel_rfl) (fun _ _ _ h => h) (by rfl) (fun w hSw => by (try dsimp only at hSw); go_simp; try rfl) hHeld ?_
        go_frame
        refine takeH (i := 31) (some 65) rfl rfl (by kernel_rfl) (by kernel_rfl) (by kernel_rfl) (fun _ _ _ h => h) (by rfl) (fun w hSw => by (try dsimp only at hSw); go_simp; try rfl) hHeld ?_
        go_frame
        refine wpAnyH_ready (rs := [32]) (by kernel_rfl) (by simp) (AllReadyH.cons rfl (fun K hK => ?_) AllReadyH.nil)
        rw [if_pos (by rfl)]
        refine bs_lsW (some 66) rfl rfl [.slice q9 nO c9, .slice (some ⟨g4, 0, none⟩) nb cap4] [b ++ numsB ns, b] (by simp only [List.map_toArray, List.map_cons, List.map_nil]; rfl) (bsl2 _ _ _ _ _ _ _) rfl (by decide) rfl (each2 (HO9.sl.keep hcw2) (HC9.ow.sl.keep hcw2)) fun V13 hls13 hb13 hbk13 => ?_
        refine hK.out _ _ (ab_trans hHeld hb13) (fun hHeld2 => ?_)
        clear hK K hls13
        go_frame
        refine wpAnyH_ready (rs := [33]) (by kernel_rfl) (by simp) (AllReadyH.cons rfl (fun K hK => ?_) AllReadyH.nil)
        go_simp
        refine (apart_new V3 _ _ _ _ 2 hHeld (HBag.out _ hcw2) hbk13 hb13 rfl (by omega) HLt2.out).mono ?_
        rintro e V14 ⟨rfl, hb14⟩
        show K _ _
        refine hK.out _ _ hb14 (fun hHeld => ?_)
        clear hK K
        refine takeH (i := 34) (some 68) rfl rfl (by kernel_rfl) (by kernel_rfl) (by kernel_rfl) (fun _ _ _ h => h) (by rfl) (fun w hSw => by (try dsimp only at hSw); go_simp; try rfl) hHeld ?_
        go_frame
        refine takeH (i := 35) (some 4) rfl rfl (by kernel_rfl) (by kernel_rfl) (by kernel_rfl) (fun _ _ _ h => h) (by rfl) (fun w hSw => by (try dsimp only at hSw); go_simp; try rfl) hHeld ?_
        go_frame
        refine wpAnyH_done (by kernel_rfl) ?_ _
        go_wp2_with fail
        go_ret
        exact ⟨rfl, ab_trans hbV hHeld⟩
      · go_simp
        refine (put_ref _ b _ ns _ (S09.keep hcw) (by omega) (S19.keep hcw) (by omega) B1).mono ?_
        rintro e V10 ⟨v10, rfl, HO10, hb10⟩
        show K _ _
        have hcw := ab_trans hcw hb10
        refine hK.out _ _ (ab_trans hHeld hb10) (fun hHeld => ?_)
        clear hK K
        refine wpAnyH_ready (rs := [1, 5]) (by kernel_rfl) (by simp) (AllReadyH.cons rfl (fun K hK => ?_) (AllReadyH.cons rfl (fun K hK => ?_) AllReadyH.nil))
        · rw [if_pos (by rfl)]
          refine valW (some 35) rfl _ (cv_run (x := .tmp 34) rfl rfl (HO9.sl.keep hcw)) ?_
          refine hK.out _ _ hHeld (fun hHeld => ?_)
          clear hK K
          go_frame
          refine wpAnyH_ready (rs := [5]) (by kernel_rfl) (by simp) (AllReadyH.cons rfl (fun K hK => ?_) AllReadyH.nil)
          rw [if_pos (by rfl)]
          refine valW (some 39) rfl _ (cv_run (x := .tmp 38) rfl rfl HO10.sl) ?_
          refine hK.out _ _ hHeld (fun hHeld => ?_)
          clear hK K
          go_frame
          refine takeH (i := 6) (some 40) rfl rfl (by kernel_rfl) (by kernel_rfl) (by kernel_rfl) (fun _ _ _ h => h) (by rfl) (fun w hSw => by (try dsimp only at hSw); go_simp; try rfl) hHeld ?_
          go_frame
          refine takeH (i := 7) (some 41) rfl rfl (by kernel_rfl) (by kernel_rfl) (by kernel_rfl) (fun _ _ _ h => h) (by rfl) (fun w hSw => by (try dsimp only at hSw); go_simp; try rfl) hHeld ?_
          go_frame
          refine takeH (i := 8) (some 42) rfl rfl (by kernel_rfl) (by kernel_rfl) (by kernel_rfl) (fun _ _ _ h => h) (by rfl) (fun w hSw => by (try dsimp only at hSw); go_simp; try rfl) hHeld ?_
          go_frame
          refine takeH (i := 9) (some 43) rfl rfl (by kernel_rfl) (by kernel_rfl) (by kernel_rfl) (fun _ _ _ h => h) (by rfl) (fun w hSw => by (try dsimp only at hSw); go_simp; try rfl) hHeld ?_
          go_frame
          refine wpAnyH_ready (rs := [10]) (by kernel_rfl) (by simp) (AllReadyH.cons rfl (fun K hK => ?_) AllReadyH.nil)
          go_simp
          refine (kept_any _ _ b V3.heap.size _ (HC9.keep hcw) (S09.keep hcw) (by omega)).mono ?_
          rintro e V11 ⟨rfl, rfl⟩
          show K _ _
          refine hK.out _ _ hHeld (fun hHeld => ?_)
          clear hK K
          refine takeH (i := 11) (some 45) rfl rfl (by kernel_rfl) (by kernel_rfl) (by kernel_rfl) (fun _ _ _ h => h) (by rfl) (fun w hSw => by (try dsimp only at hSw); go_simp; try rfl) hHeld ?_
          go_frame
          refine takeH (i := 12) (some 46) rfl rfl (by kernel_rfl) (by kernel_rfl) (by kernel_rfl) (fun _ _ _ h => h) (by rfl) (fun w hSw => by (try dsimp only at hSw); go_simp; try rfl) hHeld ?_
          go_frame
          refine takeH (i := 13) (some 47) rfl rfl (by kernel_rfl) (by kernel_rfl) (by kernel_rfl) (fun _ _ _ h => h) (by rfl) (fun w hSw => by (try dsimp only at hSw); go_simp; try rfl) hHeld ?_
          go_frame
          refine takeH (i := 14) (some 48) rfl rfl (by kernel_rfl) (by kernel_rfl) (by kernel_rfl) (fun _ _ _ h => h) (by rfl) (fun w hSw => by (try dsimp only at hSw); go_simp; try rfl) hHeld ?_
          go_frame
          refine wpAnyH_ready (rs := [15]) (by kernel_rfl) (by simp) (AllReadyH.cons rfl (fun K hK => ?_) AllReadyH.nil)
          go_simp
          refine (ints_is _ _ ns ns _ (I9.keep hcw) (S19.keep hcw) (by omega) (by omega)).mono ?_
          rw [HDe.out]
          rintro e V12 ⟨rfl, hb12⟩
          show K _ _
          have hcw2 := ab_trans hcw hb12
          refine hK.out _ _ (ab_trans hHeld hb12) (fun hHeld => ?_)
          clear hK K
          refine takeH (i := 16) (some 50) rfl rfl (by kernel_rfl) (by kernel_rfl) (by kernel_rfl) (fun _ _ _ h => h) (by rfl) (fun w hSw => by (try dsimp only at hSw); go_simp; try rfl) hHeld ?_
          go_frame
          refine takeH (i := 17) (some 51) rfl rfl (by kernel_rfl) (by kernel_rfl) (by kernel_rfl) (fun _ _ _ h => h) (by rfl) (fun w hSw => by (try dsimp only at hSw); go_simp; try rfl) hHeld ?_
          go_frame
          refine takeH (i := 18) (some 52) rfl rfl (by kernel_rfl) (by kernel_rfl) (by kernel_rfl) (fun _ _ _ h => h) (by rfl) (fun w hSw => by (try dsimp only at hSw); go_simp; try rfl) hHeld ?_
          go_frame
          refine takeH (i := 19) (some 53) rfl rfl (by kernel_rfl) (by kernel_rfl) (by kernel_rfl) (fun _ _ _ h => h) (by rfl) (fun w hSw => by (try dsimp only at hSw); go_simp; try rfl) hHeld ?_
          go_frame
          refine takeH (i := 20) (some 54) rfl rfl (by kernel_rfl) (by kernel_rfl) (by kernel_rfl) (fun _ _ _ h => h) (by rfl) (fun w hSw => by (try dsimp only at hSw); go_simp; try rfl) hHeld ?_
          go_frame
          refine takeH (i := 21) (some 55) rfl rfl (by kernel_rfl) (by kernel_rfl) (by kernel_rfl) (fun _ _ _ h => h) (by rfl) (fun w hSw => by (try dsimp only at hSw); go_simp; try rfl) hHeld ?_
          go_frame
          refine takeH (i := 22) (some 56) rfl rfl (by kernel_rfl) (by kernel_rfl) (by kernel_rfl) (fun _ _ _ h => h) (by rfl) (fun w hSw => by (try dsimp only at hSw); exact slI_run (j := n + 1) rfl rfl rfl (by rw [IntWalk.i64_left]; unfold wrap64; omega) hc8') hHeld ?_
          go_frame
          refine takeH (i := 23) (some 57) rfl rfl (by kernel_rfl) (by kernel_rfl) (by kernel_rfl) (fun _ _ _ h => h) (by rfl) (fun w hSw => by (try dsimp only at hSw); go_simp; try rfl) hHeld ?_
          go_frame
          refine takeH (i := 24) (some 58) rfl rfl (by kernel_rfl) (by kernel_rfl) (by kernel_rfl) (fun _ _ _ h => h) (by rfl) (fun w hSw => by (try dsimp only at hSw); go_simp; try rfl) hHeld ?_
          go_frame
          refine takeH (i := 25) (some 59) rfl rfl (by kernel_rfl) (by kernel_rfl) (by kernel_rfl) (fun _ _ _ h => h) (by rfl) (fun w hSw => by (try dsimp only at hSw); (go_simp; rw [if_pos (by omega)])) hHeld ?_
          go_frame
          refine wpAnyH_ready (rs := [26]) (by kernel_rfl) (by simp) (AllReadyH.cons rfl (fun K hK => ?_) AllReadyH.nil)
          rw [if_pos (by rfl)]
          refine valW (some 60) rfl (.int .i64 (-77)) (by have dcw := keep_cell hcw2 d9 hg9; go_simp) ?_
          refine hK.out _ _ hHeld (fun hHeld => ?_)
          clear hK K
          go_frame
          refine takeH (i := 27) (some 61) rfl rfl (by kernel_rfl) (by kernel_rfl) (by kernel_rfl) (fun _ _ _ h => h) (by rfl) (fun w hSw => by (try dsimp only at hSw); go_simp; try rfl) hHeld ?_
          go_frame
          refine takeH (i := 28) (some 62) rfl rfl (by kernel_rfl) (by kernel_rfl) (by kernel_rfl) (fun _ _ _ h => h) (by rfl) (fun w hSw => by (try dsimp only at hSw); go_simp; try rfl) hHeld ?_
          go_frame
          refine takeH (i := 29) (some 63) rfl rfl (by kernel_rfl) (by kernel_rfl) (by kernel_rfl) (fun _ _ _ h => h) (by rfl) (fun w hSw => by (try dsimp only at hSw); go_simp; try rfl) hHeld ?_
          go_frame
          refine takeH (i := 30) (some 64) rfl rfl (by kernel_rfl) (by kernel_rfl) (by kernel_rfl) (fun _ _ _ h => h) (by rfl) (fun w hSw => by (try dsimp only at hSw); go_simp; try rfl) hHeld ?_
          go_frame
          refine takeH (i := 31) (some 65) rfl rfl (by kernel_rfl) (by kernel_rfl) (by kernel_rfl) (fun _ _ _ h => h) (by rfl) (fun w hSw => by (try dsimp only at hSw); go_simp; try rfl) hHeld ?_
          go_frame
          refine wpAnyH_ready (rs := [32]) (by kernel_rfl) (by simp) (AllReadyH.cons rfl (fun K hK => ?_) AllReadyH.nil)
          rw [if_pos (by rfl)]
          refine bs_lsW (some 66) rfl rfl [.slice q9 nO c9, .slice (some ⟨g4, 0, none⟩) nb cap4] [b ++ numsB ns, b] (by simp only [List.map_toArray, List.map_cons, List.map_nil]; rfl) (bsl2 _ _ _ _ _ _ _) rfl (by decide) rfl (each2 (HO9.sl.keep hcw2) (HC9.ow.sl.keep hcw2)) fun V13 hls13 hb13 hbk13 => ?_
          refine hK.out _ _ (ab_trans hHeld hb13) (fun hHeld2 => ?_)
          clear hK K hls13
          go_frame
          refine wpAnyH_ready (rs := [33]) (by kernel_rfl) (by simp) (AllReadyH.cons rfl (fun K hK => ?_) AllReadyH.nil)
          go_simp
          refine (apart_new V3 _ _ _ _ 2 hHeld (HBag.out _ hcw2) hbk13 hb13 rfl (by omega) HLt2.out).mono ?_
          rintro e V14 ⟨rfl, hb14⟩
          show K _ _
          refine hK.out _ _ hb14 (fun hHeld => ?_)
          clear hK K
          refine takeH (i := 34) (some 68) rfl rfl (by kernel_rfl) (by kernel_rfl) (by kernel_rfl) (fun _ _ _ h => h) (by rfl) (fun w hSw => by (try dsimp only at hSw); go_simp; try rfl) hHeld ?_
          go_frame
          refine takeH (i := 35) (some 4) rfl rfl (by kernel_rfl) (by kernel_rfl) (by kernel_rfl) (fun _ _ _ h => h) (by rfl) (fun w hSw => by (try dsimp only at hSw); go_simp; try rfl) hHeld ?_
          go_frame
          refine wpAnyH_done (by kernel_rfl) ?_ _
          go_wp2_with fail
          go_ret
          exact ⟨rfl, ab_trans hbV hHeld⟩
        · rw [if_pos (by rfl)]
          refine valW (some 39) rfl _ (cv_run (x := .tmp 38) rfl rfl HO10.sl) ?_
          refine hK.out _ _ hHeld (fun hHeld => ?_)
          clear hK K
          go_frame
          refine wpAnyH_ready (rs := [1]) (by kernel_rfl) (by simp) (AllReadyH.cons rfl (fun K hK => ?_) AllReadyH.nil)
          rw [if_pos (by rfl)]
          refine valW (some 35) rfl _ (cv_run (x := .tmp 34) rfl rfl (HO9.sl.keep hcw)) ?_
          refine hK.out _ _ hHeld (fun hHeld => ?_)
          clear hK K
          go_frame
          refine takeH (i := 6) (some 40) rfl rfl (by kernel_rfl) (by kernel_rfl) (by kernel_rfl) (fun _ _ _ h => h) (by rfl) (fun w hSw => by (try dsimp only at hSw); go_simp; try rfl) hHeld ?_
          go_frame
          refine takeH (i := 7) (some 41) rfl rfl (by kernel_rfl) (by kernel_rfl) (by kernel_rfl) (fun _ _ _ h => h) (by rfl) (fun w hSw => by (try dsimp only at hSw); go_simp; try rfl) hHeld ?_
          go_frame
          refine takeH (i := 8) (some 42) rfl rfl (by kernel_rfl) (by kernel_rfl) (by kernel_rfl) (fun _ _ _ h => h) (by rfl) (fun w hSw => by (try dsimp only at hSw); go_simp; try rfl) hHeld ?_
          go_frame
          refine takeH (i := 9) (some 43) rfl rfl (by kernel_rfl) (by kernel_rfl) (by kernel_rfl) (fun _ _ _ h => h) (by rfl) (fun w hSw => by (try dsimp only at hSw); go_simp; try rfl) hHeld ?_
          go_frame
          refine wpAnyH_ready (rs := [10]) (by kernel_rfl) (by simp) (AllReadyH.cons rfl (fun K hK => ?_) AllReadyH.nil)
          go_simp
          refine (kept_any _ _ b V3.heap.size _ (HC9.keep hcw) (S09.keep hcw) (by omega)).mono ?_
          rintro e V11 ⟨rfl, rfl⟩
          show K _ _
          refine hK.out _ _ hHeld (fun hHeld => ?_)
          clear hK K
          refine takeH (i := 11) (some 45) rfl rfl (by kernel_rfl) (by kernel_rfl) (by kernel_rfl) (fun _ _ _ h => h) (by rfl) (fun w hSw => by (try dsimp only at hSw); go_simp; try rfl) hHeld ?_
          go_frame
          refine takeH (i := 12) (some 46) rfl rfl (by kernel_rfl) (by kernel_rfl) (by kernel_rfl) (fun _ _ _ h => h) (by rfl) (fun w hSw => by (try dsimp only at hSw); go_simp; try rfl) hHeld ?_
          go_frame
          refine takeH (i := 13) (some 47) rfl rfl (by kernel_rfl) (by kernel_rfl) (by kernel_rfl) (fun _ _ _ h => h) (by rfl) (fun w hSw => by (try dsimp only at hSw); go_simp; try rfl) hHeld ?_
          go_frame
          refine takeH (i := 14) (some 48) rfl rfl (by kernel_rfl) (by kernel_rfl) (by kernel_rfl) (fun _ _ _ h => h) (by rfl) (fun w hSw => by (try dsimp only at hSw); go_simp; try rfl) hHeld ?_
          go_frame
          refine wpAnyH_ready (rs := [15]) (by kernel_rfl) (by simp) (AllReadyH.cons rfl (fun K hK => ?_) AllReadyH.nil)
          go_simp
          refine (ints_is _ _ ns ns _ (I9.keep hcw) (S19.keep hcw) (by omega) (by omega)).mono ?_
          rw [HDe.out]
          rintro e V12 ⟨rfl, hb12⟩
          show K _ _
          have hcw2 := ab_trans hcw hb12
          refine hK.out _ _ (ab_trans hHeld hb12) (fun hHeld => ?_)
          clear hK K
          refine takeH (i := 16) (some 50) rfl rfl (by kernel_rfl) (by kernel_rfl) (by kernel_rfl) (fun _ _ _ h => h) (by rfl) (fun w hSw => by (try dsimp only at hSw); go_simp; try rfl) hHeld ?_
          go_frame
          refine takeH (i := 17) (some 51) rfl rfl (by kernel_rfl) (by kernel_rfl) (by kernel_rfl) (fun _ _ _ h => h) (by rfl) (fun w hSw => by (try dsimp only at hSw); go_simp; try rfl) hHeld ?_
          go_frame
          refine takeH (i := 18) (some 52) rfl rfl (by kernel_rfl) (by kernel_rfl) (by kernel_rfl) (fun _ _ _ h => h) (by rfl) (fun w hSw => by (try dsimp only at hSw); go_simp; try rfl) hHeld ?_
          go_frame
          refine takeH (i := 19) (some 53) rfl rfl (by kernel_rfl) (by kernel_rfl) (by kernel_rfl) (fun _ _ _ h => h) (by rfl) (fun w hSw => by (try dsimp only at hSw); go_simp; try rfl) hHeld ?_
          go_frame
          refine takeH (i := 20) (some 54) rfl rfl (by kernel_rfl) (by kernel_rfl) (by kernel_rfl) (fun _ _ _ h => h) (by rfl) (fun w hSw => by (try dsimp only at hSw); go_simp; try rfl) hHeld ?_
          go_frame
          refine takeH (i := 21) (some 55) rfl rfl (by kernel_rfl) (by kernel_rfl) (by kernel_rfl) (fun _ _ _ h => h) (by rfl) (fun w hSw => by (try dsimp only at hSw); go_simp; try rfl) hHeld ?_
          go_frame
          refine takeH (i := 22) (some 56) rfl rfl (by kernel_rfl) (by kernel_rfl) (by kernel_rfl) (fun _ _ _ h => h) (by rfl) (fun w hSw => by (try dsimp only at hSw); exact slI_run (j := n + 1) rfl rfl rfl (by rw [IntWalk.i64_left]; unfold wrap64; omega) hc8') hHeld ?_
          go_frame
          refine takeH (i := 23) (some 57) rfl rfl (by kernel_rfl) (by kernel_rfl) (by kernel_rfl) (fun _ _ _ h => h) (by rfl) (fun w hSw => by (try dsimp only at hSw); go_simp; try rfl) hHeld ?_
          go_frame
          refine takeH (i := 24) (some 58) rfl rfl (by kernel_rfl) (by kernel_rfl) (by kernel_rfl) (fun _ _ _ h => h) (by rfl) (fun w hSw => by (try dsimp only at hSw); go_simp; try rfl) hHeld ?_
          go_frame
          refine takeH (i := 25) (some 59) rfl rfl (by kernel_rfl) (by kernel_rfl) (by kernel_rfl) (fun _ _ _ h => h) (by rfl) (fun w hSw => by (try dsimp only at hSw); (go_simp; rw [if_pos (by omega)])) hHeld ?_
          go_frame
          refine wpAnyH_ready (rs := [26]) (by kernel_rfl) (by simp) (AllReadyH.cons rfl (fun K hK => ?_) AllReadyH.nil)
          rw [if_pos (by rfl)]
          refine valW (some 60) rfl (.int .i64 (-77)) (by have dcw := keep_cell hcw2 d9 hg9; go_simp) ?_
          refine hK.out _ _ hHeld (fun hHeld => ?_)
          clear hK K
          go_frame
          refine takeH (i := 27) (some 61) rfl rfl (by kernel_rfl) (by kernel_rfl) (by kernel_rfl) (fun _ _ _ h => h) (by rfl) (fun w hSw => by (try dsimp only at hSw); go_simp; try rfl) hHeld ?_
          go_frame
          refine takeH (i := 28) (some 62) rfl rfl (by kernel_rfl) (by kernel_rfl) (by kernel_rfl) (fun _ _ _ h => h) (by rfl) (fun w hSw => by (try dsimp only at hSw); go_simp; try rfl) hHeld ?_
          go_frame
          refine takeH (i := 29) (some 63) rfl rfl (by kernel_rfl) (by kernel_rfl) (by kernel_rfl) (fun _ _ _ h => h) (by rfl) (fun w hSw => by (try dsimp only at hSw); go_simp; try rfl) hHeld ?_
          go_frame
          refine takeH (i := 30) (some 64) rfl rfl (by kernel_rfl) (by kernel_rfl) (by kernel_rfl) (fun _ _ _ h => h) (by rfl) (fun w hSw => by (try dsimp only at hSw); go_simp; try rfl) hHeld ?_
          go_frame
          refine takeH (i := 31) (some 65) rfl rfl (by kernel_rfl) (by kernel_rfl) (by kernel_rfl) (fun _ _ _ h => h) (by rfl) (fun w hSw => by (try dsimp only at hSw); go_simp; try rfl) hHeld ?_
          go_frame
          refine wpAnyH_ready (rs := [32]) (by kernel_rfl) (by simp) (AllReadyH.cons rfl (fun K hK => ?_) AllReadyH.nil)
          rw [if_pos (by rfl)]
          refine bs_lsW (some 66) rfl rfl [.slice q9 nO c9, .slice (some ⟨g4, 0, none⟩) nb cap4] [b ++ numsB ns, b] (by simp only [List.map_toArray, List.map_cons, List.map_nil]; rfl) (bsl2 _ _ _ _ _ _ _) rfl (by decide) rfl (each2 (HO9.sl.keep hcw2) (HC9.ow.sl.keep hcw2)) fun V13 hls13 hb13 hbk13 => ?_
          refine hK.out _ _ (ab_trans hHeld hb13) (fun hHeld2 => ?_)
          clear hK K hls13
          go_frame
          refine wpAnyH_ready (rs := [33]) (by kernel_rfl) (by simp) (AllReadyH.cons rfl (fun K hK => ?_) AllReadyH.nil)
          go_simp
          refine (apart_new V3 _ _ _ _ 2 hHeld (HBag.out _ hcw2) hbk13 hb13 rfl (by omega) HLt2.out).mono ?_
          rintro e V14 ⟨rfl, hb14⟩
          show K _ _
          refine hK.out _ _ hb14 (fun hHeld => ?_)
          clear hK K
          refine takeH (i := 34) (some 68) rfl rfl (by kernel_rfl) (by kernel_rfl) (by kernel_rfl) (fun _ _ _ h => h) (by rfl) (fun w hSw => by (try dsimp only at hSw); go_simp; try rfl) hHeld ?_
          go_frame
          refine takeH (i := 35) (some 4) rfl rfl (by kernel_rfl) (by kernel_rfl) (by kernel_rfl) (fun _ _ _ h => h) (by rfl) (fun w hSw => by (try dsimp only at hSw); go_simp; try rfl) hHeld ?_
          go_frame
          refine wpAnyH_done (by kernel_rfl) ?_ _
          go_wp2_with fail
          go_ret
          exact ⟨rfl, ab_trans hbV hHeld⟩

theorem own : ownKnob Try.prog.godebug = none := by kernel_rfl
theorem laidOut : laidOutB Try.prog = true := by kernel_rfl

set_option maxRecDepth 100000 in
theorem lifted (os : Os) (started : os.Started) (H : Type) (enc : TypeId × Value → H) :
    ReturnsInHanded {} Try.checked os 3 .any (Rows.framePutsSpec.pre6 enc Try.prog Try.f3 Rows.framePutsRow.domain false) (Rows.framePutsSpec.post enc Try.prog Try.f3 false true false false) := by
  refine returnsInHanded_of_change (C := Try.checked) own started (by kernel_rfl) Try.func3
    (ChangeSpec.witness6 (enc := enc) (C := Try.checked) false ⟨#[], #[.slice none 0 0, .slice none 0 0], []⟩ 8 (by kernel_rfl) (by kernel_rfl) (by kernel_rfl) (by kernel_rfl)) ?_
  intro W base args ds gs before hval0 hW hcnd _
  have hval : ∀ (j : Nat) t v, Try.f3.params[j]? = some t → args[j]? = some v → Value.okWide Try.prog W .any base t v := hval0
  have hW' := hW
  obtain ⟨p, q, hA0, hV, rfl, hfz, hnd⟩ := hW
  have hA : DataW.TrodAll enc Try.prog W 0 (fun _ => true) true Try.f3.params.toList args.toList ds p := hA0
  rw [Try.params3] at hA hval
  obtain ⟨v0, vs0, d0, ds0, p0, q0, hargs, rfl, rfl, h0, r0⟩ := trodAll_cons hA
  obtain ⟨v1, vs1, d1, ds1, p1, q1, rfl, rfl, rfl, h1, r1⟩ := trodAll_cons r0
  obtain ⟨rfl, rfl, rfl⟩ := trodAll_nil r1
  obtain rfl : args = #[v0, v1] := by cases args; simp_all
  obtain ⟨rfl, rfl⟩ := trodVars_none hV
  have k0 := h0
  have lt0 : ∀ x ∈ p0, x.block < W.heap.size := by obtain ⟨m, hm⟩ := k0; exact DataW.trod_lt m _ _ _ hm
  have k1 := h1
  have lt1 : ∀ x ∈ p1, x.block < W.heap.size := by obtain ⟨m, hm⟩ := k1; exact DataW.trod_lt m _ _ _ hm
  obtain ⟨l0_, S0_, B0_⟩ := open_bytes (hval 0 22 v0 rfl rfl) h0
  obtain ⟨l1_, S1_, B1_⟩ := open_nums (hval 1 23 v1 rfl rfl) h1
  clear hA0 hval0
  refine (walk v0 l0_ S0_ B0_ v1 l1_ S1_ B1_).mono fun e W' ⟨he, bel⟩ => ?_
  subst he
  exact ⟨_, rfl, _, _, _, [], _, [], hW', trodAll_mk1 (shut_bool Try.underlying4 _), (trodAll_cons_mk (Below.trod laidOut (by kernel_rfl) (of_decide_eq_true (by kernel_rfl)) k0 bel lt0) (trodAll_cons_mk (Below.trod laidOut (by kernel_rfl) (of_decide_eq_true (by kernel_rfl)) k1 bel lt1) trodAll_mk0)), rfl, bel.frame _, fun h => by cases h⟩

theorem over : Rows.framePutsRow.holds Try.pinned (OpenSpec.ofChange Rows.framePutsSpec) :=
  OpenClaim.holds_of_wide 3 Try.f3 rfl rfl rfl rfl rfl rfl rfl ⟨rfl, rfl, rfl, rfl, rfl⟩ rfl rfl rfl rfl rfl (by kernel_rfl) Try.func3 (by kernel_rfl)
    (of_decide_eq_true (by kernel_rfl)) (by unfold Func.isWrapper; first | (rw [if_pos (by decide +kernel)]; kernel_rfl) | (rw [if_neg (by decide +kernel)]; exact ⟨rfl, rfl⟩))
    (fun os started H enc _ => lifted os started H enc)

theorem proved : Rows.FramePutsSaid := over
end Go.Proofs.Ytgimkaklocmhkaa.framePuts
namespace Go.Proofs.Ytgimkaklocmhkaa
theorem framePuts_holds : Rows.FramePutsSaid := framePuts.proved
#print axioms framePuts_holds
end Go.Proofs.Ytgimkaklocmhkaa
