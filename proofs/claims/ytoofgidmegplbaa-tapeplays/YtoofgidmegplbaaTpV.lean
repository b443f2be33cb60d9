/-
  estuarylaw06.play: one call by both tapes.
-/
import Derived.Test.YtoofgidmegplbaaTpU
import Derived.Deep.CutRange
import Derived.Deep.CutBlock
namespace Go.Proofs.Ytoofgidmegplbaa
open Go.RowKit
set_option linter.unusedVariables false

theorem steps_st (S : TS) : (stS S).steps ≤ S.steps + 1 := by
  unfold stS
  split
  · omega
  · split
    · show S.steps ≤ _; omega
    · show S.steps + 1 ≤ _; omega
theorem steps_ap (S : TS) (m : List Nat) : (apS S m).steps ≤ S.steps + 1 := by
  have := steps_st S
  unfold apS
  split
  · split <;> exact this
  · omega
theorem steps_rp (S : TS) (m : List Nat) : (rpS S m).steps ≤ S.steps + 1 := by
  have := steps_st S
  unfold rpS
  split
  · split <;> exact this
  · omega
theorem steps_sy (S : TS) : (syS S).steps ≤ S.steps + 1 := by
  have := steps_st S
  unfold syS
  split <;> exact this
theorem steps_ct (S : TS) : (ctS S).steps ≤ S.steps + 1 := by
  unfold ctS
  split
  · omega
  · show S.steps ≤ _; omega
/-- Both tapes behind a call. -/
def Bo (A : World) (b r : Nat) (W wc : World) (v : Value) (S : TS) : Prop := ∃ v' S', Tp wc A.heap.size b v' S' ∧ Rf wc r S' ∧ S'.steps ≤ S.steps + 1 ∧ Mw b r W wc v v'
/-- First the tape, then the document's. -/
theorem bo_of {A W W1 W2 : World} {b r : Nat} {v v1 : Value} {S S1 : TS} (hT : Tp W A.heap.size b v S) (hR : Rf W r S) (h1 : Tp W1 A.heap.size b v1 S1) (m1 : Mv b W W1 v v1) (h2 : Rf W2 r S1) (k2 : Chg r W1 W2) (hs : S1.steps ≤ S.steps + 1) : Bo A b r W W2 v S := by
  obtain ⟨n1, n2⟩ := tp_two h1 (hR.mv hT m1)
  exact ⟨v1, S1, h1.chgO k2 (Ne.symm n1) n2, h2, hs, (m1.mw r).trans (k2.mw b v1)⟩
set_option maxHeartbeats 4000000 in
set_option maxRecDepth 100000 in
theorem play_any (A : World) (b r : Nat) (v : Value) (S : TS) (kd nn : Int) (vb : Value) (l : List Nat) (w : World) (hT : Tp w A.heap.size b v S) (hR : Rf w r S) (hr : A.heap.size ≤ r) (hA : Below A.heap.size A w) (hS : Sl A vb l) (hl : l.length ≤ 16384) (hst : S.steps < 1000000)
    (hkd : -9223372036854775808 ≤ kd ∧ kd ≤ 9223372036854775807) (hnn : -9223372036854775808 ≤ nn ∧ nn ≤ 9223372036854775807) :
    Calls Try.prog 12 #[tptr b, tptr r, .agg #[.int .i64 kd, vb, .int .i64 nn]] w fun e w' => e = .returned (.bool true) ∧ ∃ v' S', Tp w' A.heap.size b v' S' ∧ Rf w' r S' ∧ S'.steps ≤ S.steps + 1 ∧ Below A.heap.size A w' := by
  obtain ⟨qb, capb, eb, -⟩ := id hS
  have b1 : Below w.heap.size w (w.alloc (.cells #[.int .i64 kd, vb, .int .i64 nn] 32)) := (Below.refl _ _).alloc (Nat.le_refl _) _
  have hO1 : Blk (w.alloc (.cells #[.int .i64 kd, vb, .int .i64 nn] 32)) w.heap.size #[.int .i64 kd, vb, .int .i64 nn] 32 := Blk.new _ _ _
  have hz1 : w.heap.size < (w.alloc (.cells #[.int .i64 kd, vb, .int .i64 nn] 32)).heap.size := by simp
  subst eb
  generalize hn : l.length = n at *
  go_enter Try.func12, Try.ntmps12
  go_upto_region 1 with fail
  generalize w.alloc (.cells #[.int .i64 kd, .slice qb n capb, .int .i64 nn] 32) = W1 at *
  have hT1 := hT.keep b1
  have hR1 := hR.keep b1
  have hA1 := ab_trans hA b1
  have c1 := hO1.at (i := 1) rfl
  have s1 := hS.keep hA1
  go_upto_region 2 with (go_at_call 27; refine (copy_any _ l _ s1 (by omega)).mono ?_; rintro e W2 ⟨vc, rfl, hC2, b2⟩)
  have hT2 := hT1.keep b2
  have hR2 := hR1.keep b2
  have hA2 := ab_trans hA1 b2
  have hO2 := hO1.keep b2
  obtain ⟨gc, capc, ec, hcown⟩ := id hC2
  rw [hn] at ec
  subst ec
  have hgc := (hcown.lt gc rfl)
  have ht1 := hT1.blk.lt
  have hr1 := hR1.lt
  have hv1 : ∀ x, v.ownBlock = some x → x < W1.heap.size := fun x hx => (hT1.own.lt x hx).2
  have hcs : Stb b W2 v (.slice (some ⟨gc, 0, none⟩) n capc) l := stb_far hC2.ow.sl fun g hg => by
    have hg' : gc = g := by simpa [Value.ownBlock] using hg
    subst hg'
    exact ⟨by omega, fun e => by have := hv1 _ e; omega⟩
  have hob : w.heap.size ≠ b := blk_ne hO1 hT1.blk (by decide)
  have hov : v.ownBlock ≠ some w.heap.size := blk_own hT1.own hO1 (by decide)
  have hor : w.heap.size ≠ r := by
    obtain ⟨ar, lf, un, hB, -⟩ := hR1
    exact blk_ne hO1 hB (by decide)
  clear hT1 hR1 hA1 c1 s1 hO1 b1 hT hR hA
  have d0 := hO2.at (i := 0) rfl
  have d1 := hO2.at (i := 1) rfl
  have d2 := hO2.at (i := 2) rfl
  go_upto_block 0 with fail
  go_cut [8] from 9 to 116 (fun s wc => s = .bool true ∧ Bo A b r W2 wc v S)
  case first =>
    have HO : Hid (∀ X v', Mv b W2 X v v' → Blk X w.heap.size #[.int .i64 kd, .slice qb n capb, .int .i64 nn] 32) := fun X v' m => by
      unfold Blk
      rw [m.other _ (by omega) hob hov]
      exact hO2
    have hmx := hT2.max
    have hsu := hT2.sure
    by_cases hk0 : kd = 0
    · subst hk0
      obtain ⟨k, hkn, hki⟩ : ∃ k : Nat, k ≤ n ∧ (if (n : Int) < (if nn < 0 then 0 else nn) then (n : Int) else (if nn < 0 then 0 else nn)) = ((k : Nat) : Int) := by
        refine ⟨min nn.toNat n, by omega, ?_⟩
        split <;> split at * <;> omega
      go_upto_region 8 with fail
      have HFl : Hid ([l.take k, l.drop k].flatten = l) := by show _ = _; simp
      have hcap : n ≤ capc := by
        have := hC2.ow.sl.len
        omega
      clear hki
      generalize (if nn < 0 then (0 : Int) else nn) = y
      refine wp_region_held_drew (S := fun w' => w'.cell? ⟨w.heap.size, 1, none⟩ = some (.slice qb n capb) ∧ Below A.heap.size A w') (by kernel_rfl) ⟨d1, hA2.drew⟩ (fun hHeld => ?_)
      have bd : Below W2.heap.size W2 W2.drew := (Below.refl _ _).drew
      have hT3 := hT2.keep bd
      have hR3 := hR2.keep bd
      have hcs3 := (hcs.keep bd).sl
      have md := mv_below (b := b) v bd
      have HO3 : Hid (∀ X v', Mv b W2 X v v' → X.cell? ⟨w.heap.size, 1, none⟩ = some (.slice qb n capb)) := fun X v' m => (HO.out _ _ m).at (i := 1) rfl
      generalize W2.drew = V at *
      obtain ⟨o1, eo1, -⟩ := sliced_some gc 0 0 k capc 1
      obtain ⟨o2, eo2, -⟩ := sliced_some gc 0 k n capc 1
      have s1 := hcs3.sub (Nat.zero_le k) hkn (Nat.le_refl _) (by omega) eo1.symm
      have s2 := hcs3.sub hkn (Nat.le_refl n) (Nat.le_refl _) hcap eo2.symm
      have e1 : (l.drop 0).take (k - 0) = l.take k := rfl
      have e2 : (l.drop k).take (n - k) = l.drop k := List.take_of_length_le (by rw [List.length_drop]; omega)
      rw [e1] at s1
      rw [e2] at s2
      have far : ∀ g, some gc = some g → g ≠ b ∧ v.ownBlock ≠ some g := fun g hg => by
        cases hg
        exact ⟨by omega, fun e => by have := hv1 _ e; omega⟩
      have t1 : Stb b V v _ _ := stb_far s1 far
      have t2 : Stb b V v _ _ := stb_far s2 far
      clear e1 e2 far s1 s2
      refine takeH (i := 0) (some 32) rfl rfl (by kernel_rfl) (by kernel_rfl) (by kernel_rfl) (fun _ _ _ h => h) (by rfl) (fun w hSw => by (try dsimp only at hSw); go_simp; try rfl) hHeld ?_
      go_frame
      refine takeH (i := 1) (some 33) rfl rfl (by kernel_rfl) (by kernel_rfl) (by kernel_rfl) (fun _ _ _ h => h) (by rfl) (fun w hSw => by (try dsimp only at hSw); go_simp; try rfl) hHeld ?_
      go_frame
      refine takeH (i := 2) (some 34) rfl rfl (by kernel_rfl) (by kernel_rfl) (by kernel_rfl) (fun _ _ _ h => h) (by rfl) (fun w hSw => by (try dsimp only at hSw); go_simp; try rfl) hHeld ?_
      go_frame
      refine takeH (i := 3) (some 35) rfl rfl (by kernel_rfl) (by kernel_rfl) (by kernel_rfl) (fun _ _ _ h => h) (by rfl) (fun w hSw => by (try dsimp only at hSw); exact slb_h_run (j := k) rfl rfl rfl rfl (by omega)) hHeld ?_
      go_frame
      rw [eo1]
      refine takeH (i := 4) (some 36) rfl rfl (by kernel_rfl) (by kernel_rfl) (by kernel_rfl) (fun _ _ _ h => h) (by rfl) (fun w hSw => by (try dsimp only at hSw); go_simp; try rfl) hHeld ?_
      go_frame
      refine takeH (i := 5) (some 37) rfl rfl (by kernel_rfl) (by kernel_rfl) (by kernel_rfl) (fun _ _ _ h => h) (by rfl) (fun w hSw => by (try dsimp only at hSw); go_simp; try rfl) hHeld ?_
      go_frame
      refine takeH (i := 6) (some 38) rfl rfl (by kernel_rfl) (by kernel_rfl) (by kernel_rfl) (fun _ _ _ h => h) (by rfl) (fun w hSw => by (try dsimp only at hSw); exact slb_l_run (i := k) rfl rfl rfl rfl hkn hcap) hHeld ?_
      go_frame
      rw [eo2]
      refine takeH (i := 10) (some 42) rfl rfl (by kernel_rfl) (by kernel_rfl) (by kernel_rfl) (fun _ _ _ h => h) (by rfl) (fun w hSw => by (try dsimp only at hSw); go_simp; try rfl) hHeld ?_
      go_frame
      refine takeH (i := 11) (some 43) rfl rfl (by kernel_rfl) (by kernel_rfl) (by kernel_rfl) (fun _ _ _ h => h) (by rfl) (fun w hSw => by (try dsimp only at hSw); go_simp; try rfl) hHeld ?_
      go_frame
      refine takeH (i := 12) (some 44) rfl rfl (by kernel_rfl) (by kernel_rfl) (by kernel_rfl) (fun _ _ _ h => h) (by rfl) (fun w hSw => by (try dsimp only at hSw); (have hc := hSw.1; go_simp; try rfl)) hHeld ?_
      go_frame
      refine takeH (i := 13) (some 45) rfl rfl (by kernel_rfl) (by kernel_rfl) (by kernel_rfl) (fun _ _ _ h => h) (by rfl) (fun w hSw => by (try dsimp only at hSw); (have hc := sl_str (hS.keep hSw.2); go_simp; try rfl)) hHeld ?_
      go_frame
      refine wpAnyH_ready (rs := [7]) (by kernel_rfl) (by simp) (AllReadyH.cons rfl (fun K hK => ?_) AllReadyH.nil)
      rw [if_pos (by rfl)]
      refine bs_lsW (some 39) rfl rfl [_, _] [l.take k, l.drop k] (by simp only [List.map_toArray, List.map_cons, List.map_nil]; rfl) (bsl2 _ _ _ _ _ _ _) rfl (by decide) rfl (each2 t1.sl t2.sl) fun V5 ls5 b5 k5 => ?_
      have st5 := stl_new (n := 2) [_, _] [l.take k, l.drop k] hT3 b5 k5 rfl (by decide) rfl (eachS2 t1 t2)
      have hT5 := hT3.keep b5
      have hR5 := hR3.keep b5
      have m5 := md.trans (mv_below v b5)
      refine hK.out _ _ ⟨HO3.out _ _ m5, hHeld.2.trans (b5.mono hHeld.2.size)⟩ (fun hHeld => ?_)
      clear hK K
      go_frame
      refine wpAnyH_ready (rs := [8]) (by kernel_rfl) (by simp) (AllReadyH.cons rfl (fun K hK => ?_) AllReadyH.nil)
      go_simp
      refine (append_any _ _ _ _ _ _ S _ hT5 (by omega) st5).mono ?_
      rw [HFl.out]
      rintro e X ⟨rfl, v3, h3, m3⟩
      have hR4 := hR5.mv hT5 m3
      have m7 := m5.trans m3
      show K _ _
      refine hK.out _ _ ⟨HO3.out _ _ m7, hHeld.2.trans (hT5.below m3)⟩ (fun hHeld => ?_)
      clear hK K
      refine wpAnyH_ready (rs := [9]) (by kernel_rfl) (by simp) (AllReadyH.cons rfl (fun K hK => ?_) AllReadyH.nil)
      go_simp
      refine (num_any _ _).mono ?_
      rintro e X2 ⟨rfl, hX⟩
      subst X2
      show K _ _
      refine hK.out _ _ hHeld (fun hHeld => ?_)
      clear hK K
      refine wpAnyH_ready (rs := [14]) (by kernel_rfl) (by simp) (AllReadyH.cons rfl (fun K hK => ?_) AllReadyH.nil)
      go_simp
      refine (rappend_any r S l _ hR4 hsu hmx (by omega) (by omega) hT2.bo hT2.br).mono ?_
      rintro e X4 ⟨rfl, h4, k4⟩
      show K _ _
      refine hK.out _ _ ⟨(World.cell?_of_block (w := X) (a := ⟨w.heap.size, 1, none⟩) (k4.other _ hor)).trans hHeld.1, hHeld.2.trans (k4.below hr)⟩ (fun hHeld => ?_)
      clear hK K
      refine takeH (i := 15) (some 47) rfl rfl (by kernel_rfl) (by kernel_rfl) (by kernel_rfl) (fun _ _ _ h => h) (by rfl) (fun w hSw => by (try dsimp only at hSw); (refine (?_ : _ = Result.ok (Next.value (.bool true)) _); go_simp; try rfl)) hHeld ?_
      go_frame
      refine takeH (i := 16) (some 8) rfl rfl (by kernel_rfl) (by kernel_rfl) (by kernel_rfl) (fun _ _ _ h => h) (by rfl) (fun w hSw => by (try dsimp only at hSw); go_simp; try rfl) hHeld ?_
      go_frame
      refine wpAnyH_done (by kernel_rfl) ?_ _
      go_wp2_with fail
      go_meet
      case rel => exact ⟨rfl, bo_of hT2 hR2 h3 m7 h4 k4 (steps_ap S l)⟩
    · have hk0' : (kd == 0) = false := by simp [hk0]
      by_cases hk1 : kd = 1
      · subst hk1
        go_wp2_with (first
          | (go_at_call 19; refine (sync_any _ _ _ S _ hT2 (by omega)).mono ?_; rintro e X ⟨rfl, h3, m3⟩; have hR3 := hR2.mv hT2 m3)
          | (go_at_call 23; refine (num_any _ _).mono ?_; rintro e X2 ⟨rfl, hX⟩; subst X2)
          | (go_at_call 29; refine (rsync_any r S _ hR3 hsu hmx (by omega) hT2.bo hT2.br).mono ?_; rintro e X4 ⟨rfl, h4, k4⟩))
        go_meet
        case rel => exact ⟨rfl, bo_of hT2 hR2 h3 m3 h4 k4 (steps_sy S)⟩
      · have hk1' : (kd == 1) = false := by simp [hk1]
        by_cases hk2 : kd = 2
        · subst hk2
          go_upto_region 12 with fail
          refine wp_region_held_drew (S := fun w' => w'.cell? ⟨w.heap.size, 1, none⟩ = some (.slice qb n capb) ∧ Below A.heap.size A w') (by kernel_rfl) ⟨d1, hA2.drew⟩ (fun hHeld => ?_)
          have bd : Below W2.heap.size W2 W2.drew := (Below.refl _ _).drew
          have hT3 := hT2.keep bd
          have hR3 := hR2.keep bd
          have hcs3 := hcs.keep bd
          have md := mv_below (b := b) v bd
          have HO3 : Hid (∀ X v', Mv b W2.drew X v v' → X.cell? ⟨w.heap.size, 1, none⟩ = some (.slice qb n capb)) := fun X v' m => (HO.out _ _ (md.trans m)).at (i := 1) rfl
          generalize W2.drew = V at *
          refine takeH (i := 0) (some 58) rfl rfl (by kernel_rfl) (by kernel_rfl) (by kernel_rfl) (fun _ _ _ h => h) (by rfl) (fun w hSw => by (try dsimp only at hSw); go_simp; try rfl) hHeld ?_
          go_frame
          refine takeH (i := 1) (some 59) rfl rfl (by kernel_rfl) (by kernel_rfl) (by kernel_rfl) (fun _ _ _ h => h) (by rfl) (fun w hSw => by (try dsimp only at hSw); go_simp; try rfl) hHeld ?_
          go_frame
          refine takeH (i := 4) (some 62) rfl rfl (by kernel_rfl) (by kernel_rfl) (by kernel_rfl) (fun _ _ _ h => h) (by rfl) (fun w hSw => by (try dsimp only at hSw); go_simp; try rfl) hHeld ?_
          go_frame
          refine takeH (i := 5) (some 63) rfl rfl (by kernel_rfl) (by kernel_rfl) (by kernel_rfl) (fun _ _ _ h => h) (by rfl) (fun w hSw => by (try dsimp only at hSw); go_simp; try rfl) hHeld ?_
          go_frame
          refine takeH (i := 6) (some 64) rfl rfl (by kernel_rfl) (by kernel_rfl) (by kernel_rfl) (fun _ _ _ h => h) (by rfl) (fun w hSw => by (try dsimp only at hSw); (have hc := hSw.1; go_simp; try rfl)) hHeld ?_
          go_frame
          refine takeH (i := 7) (some 65) rfl rfl (by kernel_rfl) (by kernel_rfl) (by kernel_rfl) (fun _ _ _ h => h) (by rfl) (fun w hSw => by (try dsimp only at hSw); (have hc := sl_str (hS.keep hSw.2); go_simp; try rfl)) hHeld ?_
          go_frame
          refine wpAnyH_ready (rs := [2]) (by kernel_rfl) (by simp) (AllReadyH.cons rfl (fun K hK => ?_) AllReadyH.nil)
          go_simp
          refine (replace_any _ _ _ _ l S _ hT3 (by omega) hcs3).mono ?_
          rintro e X ⟨rfl, v3, h3, m3⟩
          have hR4 := hR3.mv hT3 m3
          show K _ _
          refine hK.out _ _ ⟨HO3.out _ _ m3, hHeld.2.trans (hT3.below m3)⟩ (fun hHeld => ?_)
          clear hK K
          refine wpAnyH_ready (rs := [3]) (by kernel_rfl) (by simp) (AllReadyH.cons rfl (fun K hK => ?_) AllReadyH.nil)
          go_simp
          refine (num_any _ _).mono ?_
          rintro e X2 ⟨rfl, hX⟩
          subst X2
          show K _ _
          refine hK.out _ _ hHeld (fun hHeld => ?_)
          clear hK K
          refine wpAnyH_ready (rs := [8]) (by kernel_rfl) (by simp) (AllReadyH.cons rfl (fun K hK => ?_) AllReadyH.nil)
          go_simp
          refine (rreplace_any r S l _ hR4 (by omega) (by omega) hT2.bo hT2.br).mono ?_
          rintro e X4 ⟨rfl, h4, k4⟩
          show K _ _
          refine hK.out _ _ ⟨(World.cell?_of_block (w := X) (a := ⟨w.heap.size, 1, none⟩) (k4.other _ hor)).trans hHeld.1, hHeld.2.trans (k4.below hr)⟩ (fun hHeld => ?_)
          clear hK K
          refine takeH (i := 9) (some 67) rfl rfl (by kernel_rfl) (by kernel_rfl) (by kernel_rfl) (fun _ _ _ h => h) (by rfl) (fun w hSw => by (try dsimp only at hSw); (refine (?_ : _ = Result.ok (Next.value (.bool true)) _); go_simp; try rfl)) hHeld ?_
          go_frame
          refine takeH (i := 10) (some 8) rfl rfl (by kernel_rfl) (by kernel_rfl) (by kernel_rfl) (fun _ _ _ h => h) (by rfl) (fun w hSw => by (try dsimp only at hSw); go_simp; try rfl) hHeld ?_
          go_frame
          refine wpAnyH_done (by kernel_rfl) ?_ _
          go_wp2_with fail
          go_meet
          case rel => exact ⟨rfl, bo_of hT2 hR2 h3 (md.trans m3) h4 k4 (steps_rp S l)⟩
        · have hk2' : (kd == 2) = false := by simp [hk2]
          by_cases hk3 : kd = 3
          · subst hk3
            go_wp2_with (first
              | (go_at_call 26; refine (cut_any _ _ _ S _ hT2).mono ?_; rintro e X ⟨rfl, v3, h3, m3⟩; have hR3 := hR2.mv hT2 m3)
              | (go_at_call 31; refine (rcut_any r S _ hR3 hsu).mono ?_; rintro e X4 ⟨rfl, h4, k4⟩))
            go_meet
            case rel => exact ⟨rfl, bo_of hT2 hR2 h3 m3 h4 k4 (steps_ct S)⟩
          · have hk3' : (kd == 3) = false := by simp [hk3]
            by_cases hk4 : kd = 4
            · subst hk4
              by_cases hneg : nn < 0
              · go_wp2_with (first
                  | (go_at_call 21; refine (arm_no _ _ _ hneg).mono ?_; rintro e X ⟨rfl, hX⟩; subst X)
                  | (go_at_call 23; refine (num_err 1 (by omega) _).mono ?_; rintro e X ⟨rfl, hX⟩; subst X))
                go_meet
                case rel => exact ⟨rfl, v, S, hT2, hR2, by omega, (Mv.refl _ _ _).mw r⟩
              · obtain ⟨N, rfl⟩ := Int.eq_ofNat_of_zero_le (Int.not_lt.1 hneg)
                have hneg' : ¬ (N : Int) < 0 := hneg
                go_upto_region 24 with (first
                  | (go_at_call 21; refine (arm_ok _ _ _ _ N _ hT2 (by omega)).mono ?_; rintro e X ⟨rfl, h3, m3⟩; have o3 := HO.out _ _ m3; have g2 := o3.at (i := 2) rfl)
                  | (go_at_call 23; refine (num_nil _).mono ?_; rintro e X2 ⟨rfl, hX⟩; subst X2))
                have hR3 := hR2.mv hT2 m3
                obtain ⟨ar, lf, un, hB3, har, hlf, hun⟩ := hR3
                refine wp_region_held_drew (S := fun w' => w'.cell? ⟨w.heap.size, 2, none⟩ = some (.int .i64 ((N : Nat) : Int))) (by kernel_rfl) g2 (fun hHeld => ?_)
                have hB4 : Blk X.drew r (rcs S ar lf un) 29 := hB3
                have kd4 := chg_drew r X
                generalize X.drew = V at *
                have p3 := hB4.at (i := 3) rfl
                have p5 := hB4.at (i := 5) rfl
                have q3 := hB4.frozen 3
                have q5 := hB4.frozen 5
                refine takeH (i := 0) (some 92) rfl rfl (by kernel_rfl) (by kernel_rfl) (by kernel_rfl) (fun _ _ _ h => h) (by rfl) (fun w hSw => by (try dsimp only at hSw); go_simp; try rfl) hHeld ?_
                go_frame
                refine takeH (i := 1) (some 93) rfl rfl (by kernel_rfl) (by kernel_rfl) (by kernel_rfl) (fun _ _ _ h => h) (by rfl) (fun w hSw => by (try dsimp only at hSw); go_simp; try rfl) hHeld ?_
                go_frame
                refine takeH (i := 2) (some 94) rfl rfl (by kernel_rfl) (by kernel_rfl) (by kernel_rfl) (fun _ _ _ h => h) (by rfl) (fun w hSw => by (try dsimp only at hSw); go_simp; try rfl) hHeld ?_
                go_frame
                refine takeH (i := 3) (some 95) rfl rfl (by kernel_rfl) (by kernel_rfl) (by kernel_rfl) (fun _ _ _ h => h) (by rfl) (fun w hSw => by (try dsimp only at hSw); (have hc := hSw; go_simp; try rfl)) hHeld ?_
                go_frame
                refine takeH (i := 4) (some 96) rfl rfl (by kernel_rfl) (by kernel_rfl) (by kernel_rfl) (fun _ _ _ h => h) (by rfl) (fun w hSw => by (try dsimp only at hSw); go_simp; try rfl) hHeld ?_
                go_frame
                refine takeH (i := 5) (some 97) rfl rfl (by kernel_rfl) (by kernel_rfl) (by kernel_rfl) (fun _ _ _ h => h) (by rfl) (fun w hSw => by (try dsimp only at hSw); go_simp; try rfl) hHeld ?_
                go_frame
                refine wpAnyH_ready (rs := [6]) (by kernel_rfl) (by simp) (AllReadyH.cons rfl (fun K hK => ?_) AllReadyH.nil)
                go_simp
                refine hK.out _ _ ((World.cell?_of_block (w := V) (a := ⟨w.heap.size, 2, none⟩) ((chg_set V r 3 (.bool true)).other _ hor)).trans hHeld) (fun hHeld => ?_)
                clear hK K
                have hB5 := hB4.set 3 (.bool true)
                have k5 := chg_set V r 3 (.bool true)
                clear p3 p5 q3 q5
                generalize V.setCell ⟨r, 3, none⟩ (.bool true) = V5 at *
                have p5 := hB5.at (i := 5) rfl
                have q5 := hB5.frozen 5
                refine takeH (i := 7) (some 98) rfl rfl (by kernel_rfl) (by kernel_rfl) (by kernel_rfl) (fun _ _ _ h => h) (by rfl) (fun w hSw => by (try dsimp only at hSw); go_simp; try rfl) hHeld ?_
                go_frame
                refine takeH (i := 8) (some 99) rfl rfl (by kernel_rfl) (by kernel_rfl) (by kernel_rfl) (fun _ _ _ h => h) (by rfl) (fun w hSw => by (try dsimp only at hSw); go_simp; try rfl) hHeld ?_
                go_frame
                refine wpAnyH_ready (rs := [9]) (by kernel_rfl) (by simp) (AllReadyH.cons rfl (fun K hK => ?_) AllReadyH.nil)
                go_simp
                refine hK.out _ _ ((World.cell?_of_block (w := V5) (a := ⟨w.heap.size, 2, none⟩) ((chg_set V5 r 5 (.int .i64 ((N : Nat) : Int))).other _ hor)).trans hHeld) (fun hHeld => ?_)
                clear hK K
                refine wpAnyH_done (by kernel_rfl) ?_ _
                have hB6 := hB5.set 5 (.int .i64 ((N : Nat) : Int))
                have k6 := (kd4.trans k5).trans (chg_set V5 r 5 (.int .i64 ((N : Nat) : Int)))
                go_wp2_with fail
                go_meet
                case rel => exact ⟨rfl, bo_of hT2 hR2 h3 m3 (show Rf _ r { S with os := true, oa := N } from ⟨true, ((N : Nat) : Int), un, hB6, (fun _ => rfl), (fun _ _ => rfl), hun⟩) k6 (by show S.steps ≤ _; omega)⟩
            · have hk4' : (kd == 4) = false := by simp [hk4]
              by_cases hk5 : kd = 5
              · subst hk5
                by_cases hneg : nn < 0
                · go_wp2_with (first
                    | (go_at_call 22; refine (fail_no _ _ _ hneg).mono ?_; rintro e X ⟨rfl, hX⟩; subst X)
                    | (go_at_call 23; refine (num_err 1 (by omega) _).mono ?_; rintro e X ⟨rfl, hX⟩; subst X))
                  go_meet
                  case rel => exact ⟨rfl, v, S, hT2, hR2, by omega, (Mv.refl _ _ _).mw r⟩
                · obtain ⟨N, rfl⟩ := Int.eq_ofNat_of_zero_le (Int.not_lt.1 hneg)
                  have hneg' : ¬ (N : Int) < 0 := hneg
                  go_upto_region 27 with (first
                    | (go_at_call 22; refine (fail_ok _ _ _ _ N _ hT2 (by omega)).mono ?_; rintro e X ⟨rfl, h3, m3⟩; have o3 := HO.out _ _ m3; have g2 := o3.at (i := 2) rfl)
                    | (go_at_call 23; refine (num_nil _).mono ?_; rintro e X2 ⟨rfl, hX⟩; subst X2))
                  have hR3 := hR2.mv hT2 m3
                  obtain ⟨ar, lf, un, hB3, har, hlf, hun⟩ := hR3
                  refine wp_region_held_drew (S := fun w' => w'.cell? ⟨w.heap.size, 2, none⟩ = some (.int .i64 ((N : Nat) : Int))) (by kernel_rfl) g2 (fun hHeld => ?_)
                  have hB4 : Blk X.drew r (rcs S ar lf un) 29 := hB3
                  have kd4 := chg_drew r X
                  generalize X.drew = V at *
                  have p3 := hB4.at (i := 4) rfl
                  have p5 := hB4.at (i := 6) rfl
                  have q3 := hB4.frozen 4
                  have q5 := hB4.frozen 6
                  refine takeH (i := 0) (some 109) rfl rfl (by kernel_rfl) (by kernel_rfl) (by kernel_rfl) (fun _ _ _ h => h) (by rfl) (fun w hSw => by (try dsimp only at hSw); go_simp; try rfl) hHeld ?_
                  go_frame
                  refine takeH (i := 1) (some 110) rfl rfl (by kernel_rfl) (by kernel_rfl) (by kernel_rfl) (fun _ _ _ h => h) (by rfl) (fun w hSw => by (try dsimp only at hSw); go_simp; try rfl) hHeld ?_
                  go_frame
                  refine takeH (i := 2) (some 111) rfl rfl (by kernel_rfl) (by kernel_rfl) (by kernel_rfl) (fun _ _ _ h => h) (by rfl) (fun w hSw => by (try dsimp only at hSw); go_simp; try rfl) hHeld ?_
                  go_frame
                  refine takeH (i := 3) (some 112) rfl rfl (by kernel_rfl) (by kernel_rfl) (by kernel_rfl) (fun _ _ _ h => h) (by rfl) (fun w hSw => by (try dsimp only at hSw); (have hc := hSw; go_simp; try rfl)) hHeld ?_
                  go_frame
                  refine takeH (i := 4) (some 113) rfl rfl (by kernel_rfl) (by kernel_rfl) (by kernel_rfl) (fun _ _ _ h => h) (by rfl) (fun w hSw => by (try dsimp only at hSw); go_simp; try rfl) hHeld ?_
                  go_frame
                  refine takeH (i := 5) (some 114) rfl rfl (by kernel_rfl) (by kernel_rfl) (by kernel_rfl) (fun _ _ _ h => h) (by rfl) (fun w hSw => by (try dsimp only at hSw); go_simp; try rfl) hHeld ?_
                  go_frame
                  refine wpAnyH_ready (rs := [6]) (by kernel_rfl) (by simp) (AllReadyH.cons rfl (fun K hK => ?_) AllReadyH.nil)
                  go_simp
                  refine hK.out _ _ ((World.cell?_of_block (w := V) (a := ⟨w.heap.size, 2, none⟩) ((chg_set V r 4 (.bool true)).other _ hor)).trans hHeld) (fun hHeld => ?_)
                  clear hK K
                  have hB5 := hB4.set 4 (.bool true)
                  have k5 := chg_set V r 4 (.bool true)
                  clear p3 p5 q3 q5
                  generalize V.setCell ⟨r, 4, none⟩ (.bool true) = V5 at *
                  have p5 := hB5.at (i := 6) rfl
                  have q5 := hB5.frozen 6
                  refine takeH (i := 7) (some 115) rfl rfl (by kernel_rfl) (by kernel_rfl) (by kernel_rfl) (fun _ _ _ h => h) (by rfl) (fun w hSw => by (try dsimp only at hSw); go_simp; try rfl) hHeld ?_
                  go_frame
                  refine takeH (i := 8) (some 116) rfl rfl (by kernel_rfl) (by kernel_rfl) (by kernel_rfl) (fun _ _ _ h => h) (by rfl) (fun w hSw => by (try dsimp only at hSw); go_simp; try rfl) hHeld ?_
                  go_frame
                  refine wpAnyH_ready (rs := [9]) (by kernel_rfl) (by simp) (AllReadyH.cons rfl (fun K hK => ?_) AllReadyH.nil)
                  go_simp
                  refine hK.out _ _ ((World.cell?_of_block (w := V5) (a := ⟨w.heap.size, 2, none⟩) ((chg_set V5 r 6 (.int .i64 ((N : Nat) : Int))).other _ hor)).trans hHeld) (fun hHeld => ?_)
                  clear hK K
                  refine wpAnyH_done (by kernel_rfl) ?_ _
                  have hB6 := hB5.set 6 (.int .i64 ((N : Nat) : Int))
                  have k6 := (kd4.trans k5).trans (chg_set V5 r 6 (.int .i64 ((N : Nat) : Int)))
                  go_wp2_with fail
                  go_meet
                  case rel => exact ⟨rfl, bo_of hT2 hR2 h3 m3 (show Rf _ r { S with rs := true, ra := N } from ⟨ar, lf, ((N : Nat) : Int), hB6, har, hlf, (fun _ => rfl)⟩) k6 (by show S.steps ≤ _; omega)⟩
              · have hk5' : (kd == 5) = false := by simp [hk5]
                go_wp2_with (first
                  | (go_at_call 20; refine (crash_any _ _ _ S _ _ hT2 hnn).mono ?_; rintro e X ⟨rfl, v3, h3, m3⟩; have hR3 := hR2.mv hT2 m3; have g2 := (HO.out _ _ m3).at (i := 2) rfl)
                  | (go_at_call 32; refine (rcrash_any r S _ _ hR3 hsu hmx hnn).mono ?_; rintro e X4 ⟨rfl, h4, k4⟩))
                go_meet
                case rel => exact ⟨rfl, bo_of hT2 hR2 h3 m3 h4 k4 (by show S.steps ≤ _; omega)⟩
  case rest =>
    obtain ⟨rfl, v3, S3, hT3, hR3, hs3, m3⟩ := hcut
    have hA3 := hA2.trans (m3.below hT2 hr)
    have hobl : wc.heap[w.heap.size]? = W2.heap[w.heap.size]? := m3.other _ (by omega) hob hor (fun e => hov (by rw [e]))
    have hgbl : wc.heap[gc]? = W2.heap[gc]? := m3.other _ hgc.2 (by omega) (by omega) (fun e => by have := hv1 _ e; omega)
    have hO3 : Blk wc w.heap.size #[.int .i64 kd, .slice qb n capb, .int .i64 nn] 32 := by unfold Blk; rw [hobl]; exact hO2
    have e1 := hO3.at (i := 1) rfl
    have hC3 : Cp wc W1.heap.size (.slice (some ⟨gc, 0, none⟩) n capc) l := by
      obtain ⟨g', cap', e', hown'⟩ := hC2
      cases e'
      refine ⟨gc, capc, by rw [hn], hown'.1, ?_⟩
      rcases hown'.2 with ⟨h2, _⟩ | ⟨g2, c2, cur, h2, hb, hg, h3⟩
      · cases h2
      · cases h2
        exact .inr ⟨gc, capc, cur, rfl, hb, by rw [hgbl]; exact hg, h3⟩
    have hS3 := hS.keep hA3
    have hgv : v3.ownBlock ≠ some gc := fun e => by
      rcases m3.next gc e with h | h
      · have := hv1 _ h; omega
      · omega
    clear hcs d0 d1 d2 hO2 hC2 hcown hT2 hR2 hA2 m3
    go_upto_region 29 with (go_at_call 33; refine (kept_any _ _ l _ _ hC3 hS3 (by omega)).mono ?_; rintro e X ⟨rfl, hX⟩; subst X)
    go_wp2_with (go_at_call 17; refine (over_any _ _ l _ hC3.ow).mono ?_; rintro e W4 ⟨rfl, hk4, -⟩)
    have k4 := hk4 gc rfl
    go_ret
    exact ⟨rfl, v3, S3, hT3.chgO k4 (by omega) hgv, hR3.chgO k4 (by omega), hs3, hA3.trans (k4.below (by have := hT3.ge; omega))⟩
end Go.Proofs.Ytoofgidmegplbaa
