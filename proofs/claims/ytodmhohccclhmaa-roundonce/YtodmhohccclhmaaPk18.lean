/-
  Begin (written out by wip/tools/begin11.py: twelve orders of one region).
-/
import Derived.Test.YtodmhohccclhmaaPk16
import Derived.Test.YtodmhohccclhmaaPk17
namespace Go.Proofs.Ytodmhohccclhmaa
open Go.RowKit
set_option linter.unusedVariables false
set_option maxRecDepth 100000
variable {G : Nat → Prop}

theorem pr_zero (x : Bt) : prN zR x = if asB x then 0 else 2 := by
  unfold prN
  have h : gdR zR = true := by decide
  rw [h, Bool.true_and]
  cases hx : asB x
  · rfl
  · rw [if_pos rfl, if_pos rfl]
    have hl : lt3 zR.p x = true := by
      unfold asB whB noB at hx
      simp only [Bool.and_eq_true, decide_eq_true_eq, Bool.not_eq_true', decide_eq_false_iff_not] at hx
      obtain ⟨⟨h1, h2, h3⟩, h4⟩ := hx
      unfold lt3
      show decide (0 < x.n ∨ 0 = x.n ∧ (0 < x.nd ∨ 0 = x.nd ∧ 0 < x.lf)) = true
      exact decide_eq_true (by omega)
    rw [if_pos hl]
section
variable {P : Program} {o : Oper} {a : Act} {w : World} {K : Act → World → Prop} {Q : Exit → Act → World → Prop}
theorem mkmapW (d : Option Tmp) (hd : o.dst = d) {t : TypeId} (ho : o.op = .makeMap t none) (h : K (a.put d (.map (some w.heap.size))) (w.alloc (.map #[] 0))) : o.wp P a w K Q := by
  subst hd
  unfold Oper.wp execOp
  simp only [ho]
  exact h
end
theorem mp_mk (W : World) (B n : Nat) : ∃ W', W.alloc (.map #[] 0) = W' ∧ Mp G W' B W.heap.size (List.replicate n none) ∧ Below W.heap.size W W' := ⟨_, rfl, mp_new W B n, (Below.refl _ _).alloc (Nat.le_refl _) _⟩
theorem ma_mk (W : World) (n : Nat) : ∃ W', W.alloc (.map #[] 0) = W' ∧ Ma W' W.heap.size (List.replicate n false) ∧ Below W.heap.size W W' := ⟨_, rfl, ma_new W n, (Below.refl _ _).alloc (Nat.le_refl _) _⟩
theorem Mp.keep {W W' : World} {B m : Nat} {pr : List (Option (Bt × List Int))} (h : Mp G W B m pr) (hb : Below W.heap.size W W') : Mp G W' B m pr := h.frm (X := fun _ => False) (frm_below hb) (fun e => e) (noI_false W).g
theorem Ma.keep {W W' : World} {m : Nat} {ac : List Bool} (h : Ma W m ac) (hb : Below W.heap.size W W') : Ma W' m ac := h.frm (X := fun _ => False) (frm_below hb) (fun e => e)
theorem beg_rn {W : World} {B b mp ma N : Nat} {x : Bt} {c : Cg} {vo vn : Value} (hB : Blk W b (rnC (begR N x c) mp ma vo vn (.slice none 0 0)) 81) (gb : B ≤ b) (gp : B ≤ mp) (ga : B ≤ ma) (hne : mp ≠ ma) (O1 : Ig G W B vo c.o) (O2 : Ig G W B vn c.n) (M1 : Mp G W B mp (List.replicate N none)) (M2 : Ma W ma (List.replicate N false)) (hok : begOK (N : Int) x c = true) : Rn G W B b mp ma (begR N x c) :=
  ⟨gb, gp, ga, hne, ⟨vo, vn, _, hB, O1, O2, gio_nil W B, fun k hk => by cases hk⟩, M1, M2, begOK_rd hok⟩
set_option maxHeartbeats 4000000 in
theorem begin_yes (N : Nat) (x : Bt) (c : Cg) (vo vn : Value) (w : World) (hok : begOK (N : Int) x c = true) (ho : Is w vo c.o) (hn : Is w vn c.n) (hG : ∀ k, G k → k < w.heap.size) :
    Calls Try.prog 23 #[.int .i64 (N : Int), bV x, cgV c.k vo vn] w fun e w' => ∃ b mp ma, e = .returned (.tuple #[rptr b, .nilIface]) ∧ Rn G w' w.heap.size b mp ma (begR N x c) ∧ Below w.heap.size w w' := by
  have hok2 := hok
  unfold begOK at hok2
  simp only [Bool.and_eq_true, decide_eq_true_eq] at hok2
  obtain ⟨N1, N5, hx, hg⟩ := hok2
  have hsm := gd_small hg
  obtain ⟨q1, c1, e⟩ := ho.form
  subst e
  obtain ⟨q2, c2, e⟩ := hn.form
  subst e
  obtain ⟨n1, hn1⟩ : ∃ n, c.o.length = n := ⟨_, rfl⟩
  obtain ⟨n2, hn2⟩ : ∃ n, c.n.length = n := ⟨_, rfl⟩
  rw [hn1] at ho ⊢
  rw [hn2] at hn ⊢
  have HG : gdC c.k n1 n2 = true := by unfold gdG at hg; rw [hn1, hn2] at hg; exact hg
  obtain ⟨k, hk⟩ : ∃ k, c.k = k := ⟨_, rfl⟩
  rw [hk] at HG ⊢
  have i1 : ¬ ((N : Int) < 1) := by omega
  have i2 : ¬ (5 < (N : Int)) := by omega
  have i3 : ¬ (5 < N) := by omega
  have i4 : ¬ (N < 1) := by omega
  have E1 := neq00
  have HP : prN zR x = 0 := by rw [pr_zero, hx]; rfl
  go_enter Try.func23, Try.ntmps23
  go_upto_region 1 with fail
  obtain ⟨A, hAe, hX, hY, hw⟩ := blk2 w (bC x) (cgC k (.slice q1 n1 c1) (.slice q2 n2 c2)) 23 26
  rw [hAe]
  clear hAe
  obtain ⟨x0, x1, x2⟩ := cells3 hX
  obtain ⟨y0, y1, y2⟩ := cellsG hY
  have hbv := Below.refl A.heap.size A
  go_wp2_with fail
  refine (prepare_ok zR x (.slice none 0 0) _ (Is.nil _) HP).mono ?_
  rintro e W1 ⟨q, cc, rfl, hO, b1⟩
  go_upto_region 4 with fail
  generalize hE1 : W1.alloc _ = V1
  have v1 : Below W1.heap.size W1 V1 := by rw [← hE1]; exact (Below.refl _ _).alloc (Nat.le_refl _) _
  clear hE1
  have hbv := ab_trans b1 v1
  go_wp2_with fail
  refine (gcheck_any k q1 n1 c1 q2 n2 c2 _).mono ?_
  rintro e W2 ⟨rfl, b2⟩
  rw [show ckN k n1 n2 = 0 from ckN_ok HG, errV_ok rfl]
  have hbv := ab_trans hbv b2
  go_upto_region 9 with fail
  subst hk
  have hX2 := hX.keep hbv
  have hY2 := hY.keep hbv
  have hw2 := ab_trans hw hbv
  have ho2 := ho.keep hw2
  have hn2' := hn.keep hw2
  have zw := hw2.size
  clear hX hY x0 x1 x2 y0 y1 y2 hO HP HG i3 i4 E1
  have D : ∀ W, Below W2.heap.size W2 W → Blk W w.heap.size (bC x) 23 ∧ Blk W (w.heap.size + 1) (cgC c.k (.slice q1 n1 c1) (.slice q2 n2 c2)) 26 := fun W hb => ⟨hX2.keep hb, hY2.keep hb⟩
  refine wp_region_held_drew (S := fun w' => Below W2.heap.size W2 w') (by kernel_rfl) (ab_drew (Below.refl _ _)) (fun hHeld => ?_)
  refine takeH (i := 0) (some 32) rfl rfl (by kernel_rfl) (by kernel_rfl) (by kernel_rfl) (fun _ _ _ h => h) (by rfl) (fun w hSw => by (try dsimp only at hSw); go_simp; try rfl) hHeld ?_
  go_frame
  refine takeH (i := 1) (some 33) rfl rfl (by kernel_rfl) (by kernel_rfl) (by kernel_rfl) (fun _ _ _ h => h) (by rfl) (fun w hSw => by (try dsimp only at hSw); have hh := (D _ hSw).1; have y0 := hh.at (i := 0) rfl; have y1 := hh.at (i := 1) rfl; have y2 := hh.at (i := 2) rfl; go_simp; try rfl) hHeld ?_
  go_frame
  refine takeH (i := 2) (some 34) rfl rfl (by kernel_rfl) (by kernel_rfl) (by kernel_rfl) (fun _ _ _ h => h) (by rfl) (fun w hSw => by (try dsimp only at hSw); go_simp; try rfl) hHeld ?_
  go_frame
  refine takeH (i := 3) (some 35) rfl rfl (by kernel_rfl) (by kernel_rfl) (by kernel_rfl) (fun _ _ _ h => h) (by rfl) (fun w hSw => by (try dsimp only at hSw); have hh := (D _ hSw).2; have y0 := hh.at (i := 0) rfl; go_simp; try rfl) hHeld ?_
  go_frame
  refine takeH (i := 4) (some 36) rfl rfl (by kernel_rfl) (by kernel_rfl) (by kernel_rfl) (fun _ _ _ h => h) (by rfl) (fun w hSw => by (try dsimp only at hSw); go_simp; try rfl) hHeld ?_
  go_frame
  refine takeH (i := 5) (some 37) rfl rfl (by kernel_rfl) (by kernel_rfl) (by kernel_rfl) (fun _ _ _ h => h) (by rfl) (fun w hSw => by (try dsimp only at hSw); have hh := (D _ hSw).2; have y0 := hh.at (i := 1) rfl; go_simp; try rfl) hHeld ?_
  go_frame
  refine takeH (i := 7) (some 39) rfl rfl (by kernel_rfl) (by kernel_rfl) (by kernel_rfl) (fun _ _ _ h => h) (by rfl) (fun w hSw => by (try dsimp only at hSw); go_simp; try rfl) hHeld ?_
  go_frame
  refine takeH (i := 8) (some 40) rfl rfl (by kernel_rfl) (by kernel_rfl) (by kernel_rfl) (fun _ _ _ h => h) (by rfl) (fun w hSw => by (try dsimp only at hSw); have hh := (D _ hSw).2; have y0 := hh.at (i := 2) rfl; go_simp; try rfl) hHeld ?_
  go_frame
  have z0 : W2.heap.size = W2.drew.heap.size := rfl
  have hb0 : Below W2.heap.size W2 W2.drew := hHeld
  clear hHeld
  generalize W2.drew = V0 at *
  refine wpAnyH_ready (rs := [6, 11, 12]) (by kernel_rfl) (by simp) (AllReadyH.cons rfl (fun K hK => ?_) (AllReadyH.cons rfl (fun K hK => ?_) (AllReadyH.cons rfl (fun K hK => ?_) AllReadyH.nil)))
  · go_simp
    refine (rclone_any _ c.o _ (ho2.keep hb0) (by omega)).mono ?_
    rintro e V1 ⟨u, rfl, O1, b11⟩
    show K _ _
    obtain ⟨q3, c3, eu⟩ := O1.is.form
    rw [hn1] at eu
    subst eu
    have O1 := O1.less (show W2.heap.size ≤ V0.heap.size from hb0.size)
    have hb1 := ab_trans hb0 b11
    refine hK.out _ _ hb1 (fun hHeld => ?_)
    clear hK K
    clear hHeld
    refine wpAnyH_ready (rs := [9, 11, 12]) (by kernel_rfl) (by simp) (AllReadyH.cons rfl (fun K hK => ?_) (AllReadyH.cons rfl (fun K hK => ?_) (AllReadyH.cons rfl (fun K hK => ?_) AllReadyH.nil)))
    · go_simp
      refine (rclone_any _ c.n _ (hn2'.keep hb1) (by omega)).mono ?_
      rintro e V2 ⟨u, rfl, O2, b12⟩
      show K _ _
      obtain ⟨q4, c4, eu⟩ := O2.is.form
      rw [hn2] at eu
      subst eu
      have O2 := O2.less (show W2.heap.size ≤ V1.heap.size from hb1.size)
      have O1 := O1.keep b12
      have hb2 := ab_trans hb1 b12
      refine hK.out _ _ hb2 (fun hHeld => ?_)
      clear hK K
      refine takeH (i := 10) (some 42) rfl rfl (by kernel_rfl) (by kernel_rfl) (by kernel_rfl) (fun _ _ _ h => h) (by rfl) (fun w hSw => by (try dsimp only at hSw); go_simp; try rfl) hHeld ?_
      go_frame
      clear hHeld
      refine wpAnyH_ready (rs := [11, 12]) (by kernel_rfl) (by simp) (AllReadyH.cons rfl (fun K hK => ?_) (AllReadyH.cons rfl (fun K hK => ?_) AllReadyH.nil))
      · rw [if_pos (by rfl)]
        refine mkmapW (some 43) rfl rfl ?_
        obtain ⟨V3, eW, M1, b13⟩ := mp_mk (G := G) V2 w.heap.size N
        rw [eW]
        clear eW
        have lmp := hb2.size
        have kmp := M1.lt
        generalize hmp : V2.heap.size = mp at M1 lmp kmp ⊢
        have O1 := O1.keep b13
        have O2 := O2.keep b13
        have hb3 := ab_trans hb2 b13
        refine hK.out _ _ hb3 (fun hHeld => ?_)
        clear hK K
        clear hHeld
        refine wpAnyH_ready (rs := [12]) (by kernel_rfl) (by simp) (AllReadyH.cons rfl (fun K hK => ?_) AllReadyH.nil)
        · rw [if_pos (by rfl)]
          refine mkmapW (some 44) rfl rfl ?_
          obtain ⟨V4, eW, M2, b14⟩ := ma_mk V3 N
          rw [eW]
          clear eW
          have lma := hb3.size
          have kma := M2.lt
          generalize hma : V3.heap.size = ma at M2 lma kma ⊢
          have O1 := O1.keep b14
          have O2 := O2.keep b14
          have M1 := M1.keep b14
          have kmp := M1.lt
          have hb4 := ab_trans hb3 b14
          refine hK.out _ _ hb4 (fun hHeld => ?_)
          clear hK K
          clear hHeld
          have hHeld := hb4
          refine takeH (i := 13) (some 45) rfl rfl (by kernel_rfl) (by kernel_rfl) (by kernel_rfl) (fun _ _ _ h => h) (by rfl) (fun w hSw => by (try dsimp only at hSw); go_simp; try rfl) hHeld ?_
          go_frame
          refine wpAnyH_ready (rs := [14]) (by kernel_rfl) (by simp) (AllReadyH.cons rfl (fun K hK => ?_) AllReadyH.nil)
          go_simp
          have hBf := Blk.new V4 (rnC (begR N x c) mp ma (.slice q3 n1 c3) (.slice q4 n2 c4) (.slice none 0 0)) 81
          have bf : Below V4.heap.size V4 (V4.alloc (.cells (rnC (begR N x c) mp ma (.slice q3 n1 c3) (.slice q4 n2 c4) (.slice none 0 0)) 81)) := (Below.refl _ _).alloc (Nat.le_refl _) _
          have zf := hb4.size
          have hRn := beg_rn hBf (by omega : w.heap.size ≤ _) (by omega) (by omega) (by omega) (ig_new (O1.keep bf) (fun k hk => by have := hG k hk; omega) (by omega)) (ig_new (O2.keep bf) (fun k hk => by have := hG k hk; omega) (by omega)) (M1.keep bf) (M2.keep bf) hok
          refine hK.out _ _ (ab_trans hb4 bf) (fun hHeld => ?_)
          clear hK K
          refine takeH (i := 15) (some 6) rfl rfl (by kernel_rfl) (by kernel_rfl) (by kernel_rfl) (fun _ _ _ h => h) (by rfl) (fun w hSw => by (try dsimp only at hSw); go_simp; try rfl) hHeld ?_
          go_frame
          refine takeH (i := 16) (some 7) rfl rfl (by kernel_rfl) (by kernel_rfl) (by kernel_rfl) (fun _ _ _ h => h) (by rfl) (fun w hSw => by (try dsimp only at hSw); go_simp; try rfl) hHeld ?_
          go_frame
          refine wpAnyH_done (by kernel_rfl) ?_ _
          go_wp2_with fail
          go_ret2
          exact ⟨_, mp, ma, rfl, hRn, ab_trans hw2 hHeld⟩
      · rw [if_pos (by rfl)]
        refine mkmapW (some 44) rfl rfl ?_
        obtain ⟨V3, eW, M2, b13⟩ := ma_mk V2 N
        rw [eW]
        clear eW
        have lma := hb2.size
        have kma := M2.lt
        generalize hma : V2.heap.size = ma at M2 lma kma ⊢
        have O1 := O1.keep b13
        have O2 := O2.keep b13
        have hb3 := ab_trans hb2 b13
        refine hK.out _ _ hb3 (fun hHeld => ?_)
        clear hK K
        clear hHeld
        refine wpAnyH_ready (rs := [11]) (by kernel_rfl) (by simp) (AllReadyH.cons rfl (fun K hK => ?_) AllReadyH.nil)
        · rw [if_pos (by rfl)]
          refine mkmapW (some 43) rfl rfl ?_
          obtain ⟨V4, eW, M1, b14⟩ := mp_mk (G := G) V3 w.heap.size N
          rw [eW]
          clear eW
          have lmp := hb3.size
          have kmp := M1.lt
          generalize hmp : V3.heap.size = mp at M1 lmp kmp ⊢
          have O1 := O1.keep b14
          have O2 := O2.keep b14
          have M2 := M2.keep b14
          have kma := M2.lt
          have hb4 := ab_trans hb3 b14
          refine hK.out _ _ hb4 (fun hHeld => ?_)
          clear hK K
          clear hHeld
          have hHeld := hb4
          refine takeH (i := 13) (some 45) rfl rfl (by kernel_rfl) (by kernel_rfl) (by kernel_rfl) (fun _ _ _ h => h) (by rfl) (fun w hSw => by (try dsimp only at hSw); go_simp; try rfl) hHeld ?_
          go_frame
          refine wpAnyH_ready (rs := [14]) (by kernel_rfl) (by simp) (AllReadyH.cons rfl (fun K hK => ?_) AllReadyH.nil)
          go_simp
          have hBf := Blk.new V4 (rnC (begR N x c) mp ma (.slice q3 n1 c3) (.slice q4 n2 c4) (.slice none 0 0)) 81
          have bf : Below V4.heap.size V4 (V4.alloc (.cells (rnC (begR N x c) mp ma (.slice q3 n1 c3) (.slice q4 n2 c4) (.slice none 0 0)) 81)) := (Below.refl _ _).alloc (Nat.le_refl _) _
          have zf := hb4.size
          have hRn := beg_rn hBf (by omega : w.heap.size ≤ _) (by omega) (by omega) (by omega) (ig_new (O1.keep bf) (fun k hk => by have := hG k hk; omega) (by omega)) (ig_new (O2.keep bf) (fun k hk => by have := hG k hk; omega) (by omega)) (M1.keep bf) (M2.keep bf) hok
          refine hK.out _ _ (ab_trans hb4 bf) (fun hHeld => ?_)
          clear hK K
          refine takeH (i := 15) (some 6) rfl rfl (by kernel_rfl) (by kernel_rfl) (by kernel_rfl) (fun _ _ _ h => h) (by rfl) (fun w hSw => by (try dsimp only at hSw); go_simp; try rfl) hHeld ?_
          go_frame
          refine takeH (i := 16) (some 7) rfl rfl (by kernel_rfl) (by kernel_rfl) (by kernel_rfl) (fun _ _ _ h => h) (by rfl) (fun w hSw => by (try dsimp only at hSw); go_simp; try rfl) hHeld ?_
          go_frame
          refine wpAnyH_done (by kernel_rfl) ?_ _
          go_wp2_with fail
          go_ret2
          exact ⟨_, mp, ma, rfl, hRn, ab_trans hw2 hHeld⟩
    · rw [if_pos (by rfl)]
      refine mkmapW (some 43) rfl rfl ?_
      obtain ⟨V2, eW, M1, b12⟩ := mp_mk (G := G) V1 w.heap.size N
      rw [eW]
      clear eW
      have lmp := hb1.size
      have kmp := M1.lt
      generalize hmp : V1.heap.size = mp at M1 lmp kmp ⊢
      have O1 := O1.keep b12
      have hb2 := ab_trans hb1 b12
      refine hK.out _ _ hb2 (fun hHeld => ?_)
      clear hK K
      clear hHeld
      refine wpAnyH_ready (rs := [9, 12]) (by kernel_rfl) (by simp) (AllReadyH.cons rfl (fun K hK => ?_) (AllReadyH.cons rfl (fun K hK => ?_) AllReadyH.nil))
      · go_simp
        refine (rclone_any _ c.n _ (hn2'.keep hb2) (by omega)).mono ?_
        rintro e V3 ⟨u, rfl, O2, b13⟩
        show K _ _
        obtain ⟨q4, c4, eu⟩ := O2.is.form
        rw [hn2] at eu
        subst eu
        have O2 := O2.less (show W2.heap.size ≤ V2.heap.size from hb2.size)
        have O1 := O1.keep b13
        have M1 := M1.keep b13
        have kmp := M1.lt
        have hb3 := ab_trans hb2 b13
        refine hK.out _ _ hb3 (fun hHeld => ?_)
        clear hK K
        refine takeH (i := 10) (some 42) rfl rfl (by kernel_rfl) (by kernel_rfl) (by kernel_rfl) (fun _ _ _ h => h) (by rfl) (fun w hSw => by (try dsimp only at hSw); go_simp; try rfl) hHeld ?_
        go_frame
        clear hHeld
        refine wpAnyH_ready (rs := [12]) (by kernel_rfl) (by simp) (AllReadyH.cons rfl (fun K hK => ?_) AllReadyH.nil)
        · rw [if_pos (by rfl)]
          refine mkmapW (some 44) rfl rfl ?_
          obtain ⟨V4, eW, M2, b14⟩ := ma_mk V3 N
          rw [eW]
          clear eW
          have lma := hb3.size
          have kma := M2.lt
          generalize hma : V3.heap.size = ma at M2 lma kma ⊢
          have O1 := O1.keep b14
          have M1 := M1.keep b14
          have kmp := M1.lt
          have O2 := O2.keep b14
          have hb4 := ab_trans hb3 b14
          refine hK.out _ _ hb4 (fun hHeld => ?_)
          clear hK K
          clear hHeld
          have hHeld := hb4
          refine takeH (i := 13) (some 45) rfl rfl (by kernel_rfl) (by kernel_rfl) (by kernel_rfl) (fun _ _ _ h => h) (by rfl) (fun w hSw => by (try dsimp only at hSw); go_simp; try rfl) hHeld ?_
          go_frame
          refine wpAnyH_ready (rs := [14]) (by kernel_rfl) (by simp) (AllReadyH.cons rfl (fun K hK => ?_) AllReadyH.nil)
          go_simp
          have hBf := Blk.new V4 (rnC (begR N x c) mp ma (.slice q3 n1 c3) (.slice q4 n2 c4) (.slice none 0 0)) 81
          have bf : Below V4.heap.size V4 (V4.alloc (.cells (rnC (begR N x c) mp ma (.slice q3 n1 c3) (.slice q4 n2 c4) (.slice none 0 0)) 81)) := (Below.refl _ _).alloc (Nat.le_refl _) _
          have zf := hb4.size
          have hRn := beg_rn hBf (by omega : w.heap.size ≤ _) (by omega) (by omega) (by omega) (ig_new (O1.keep bf) (fun k hk => by have := hG k hk; omega) (by omega)) (ig_new (O2.keep bf) (fun k hk => by have := hG k hk; omega) (by omega)) (M1.keep bf) (M2.keep bf) hok
          refine hK.out _ _ (ab_trans hb4 bf) (fun hHeld => ?_)
          clear hK K
          refine takeH (i := 15) (some 6) rfl rfl (by kernel_rfl) (by kernel_rfl) (by kernel_rfl) (fun _ _ _ h => h) (by rfl) (fun w hSw => by (try dsimp only at hSw); go_simp; try rfl) hHeld ?_
          go_frame
          refine takeH (i := 16) (some 7) rfl rfl (by kernel_rfl) (by kernel_rfl) (by kernel_rfl) (fun _ _ _ h => h) (by rfl) (fun w hSw => by (try dsimp only at hSw); go_simp; try rfl) hHeld ?_
          go_frame
          refine wpAnyH_done (by kernel_rfl) ?_ _
          go_wp2_with fail
          go_ret2
          exact ⟨_, mp, ma, rfl, hRn, ab_trans hw2 hHeld⟩
      · rw [if_pos (by rfl)]
        refine mkmapW (some 44) rfl rfl ?_
        obtain ⟨V3, eW, M2, b13⟩ := ma_mk V2 N
        rw [eW]
        clear eW
        have lma := hb2.size
        have kma := M2.lt
        generalize hma : V2.heap.size = ma at M2 lma kma ⊢
        have O1 := O1.keep b13
        have M1 := M1.keep b13
        have kmp := M1.lt
        have hb3 := ab_trans hb2 b13
        refine hK.out _ _ hb3 (fun hHeld => ?_)
        clear hK K
        clear hHeld
        refine wpAnyH_ready (rs := [9]) (by kernel_rfl) (by simp) (AllReadyH.cons rfl (fun K hK => ?_) AllReadyH.nil)
        · go_simp
          refine (rclone_any _ c.n _ (hn2'.keep hb3) (by omega)).mono ?_
          rintro e V4 ⟨u, rfl, O2, b14⟩
          show K _ _
          obtain ⟨q4, c4, eu⟩ := O2.is.form
          rw [hn2] at eu
          subst eu
          have O2 := O2.less (show W2.heap.size ≤ V3.heap.size from hb3.size)
          have O1 := O1.keep b14
          have M1 := M1.keep b14
          have kmp := M1.lt
          have M2 := M2.keep b14
          have kma := M2.lt
          have hb4 := ab_trans hb3 b14
          refine hK.out _ _ hb4 (fun hHeld => ?_)
          clear hK K
          refine takeH (i := 10) (some 42) rfl rfl (by kernel_rfl) (by kernel_rfl) (by kernel_rfl) (fun _ _ _ h => h) (by rfl) (fun w hSw => by (try dsimp only at hSw); go_simp; try rfl) hHeld ?_
          go_frame
          clear hHeld
          have hHeld := hb4
          refine takeH (i := 13) (some 45) rfl rfl (by kernel_rfl) (by kernel_rfl) (by kernel_rfl) (fun _ _ _ h => h) (by rfl) (fun w hSw => by (try dsimp only at hSw); go_simp; try rfl) hHeld ?_
          go_frame
          refine wpAnyH_ready (rs := [14]) (by kernel_rfl) (by simp) (AllReadyH.cons rfl (fun K hK => ?_) AllReadyH.nil)
          go_simp
          have hBf := Blk.new V4 (rnC (begR N x c) mp ma (.slice q3 n1 c3) (.slice q4 n2 c4) (.slice none 0 0)) 81
          have bf : Below V4.heap.size V4 (V4.alloc (.cells (rnC (begR N x c) mp ma (.slice q3 n1 c3) (.slice q4 n2 c4) (.slice none 0 0)) 81)) := (Below.refl _ _).alloc (Nat.le_refl _) _
          have zf := hb4.size
          have hRn := beg_rn hBf (by omega : w.heap.size ≤ _) (by omega) (by omega) (by omega) (ig_new (O1.keep bf) (fun k hk => by have := hG k hk; omega) (by omega)) (ig_new (O2.keep bf) (fun k hk => by have := hG k hk; omega) (by omega)) (M1.keep bf) (M2.keep bf) hok
          refine hK.out _ _ (ab_trans hb4 bf) (fun hHeld => ?_)
          clear hK K
          refine takeH (i := 15) (some 6) rfl rfl (by kernel_rfl) (by kernel_rfl) (by kernel_rfl) (fun _ _ _ h => h) (by rfl) (fun w hSw => by (try dsimp only at hSw); go_simp; try rfl) hHeld ?_
          go_frame
          refine takeH (i := 16) (some 7) rfl rfl (by kernel_rfl) (by kernel_rfl) (by kernel_rfl) (fun _ _ _ h => h) (by rfl) (fun w hSw => by (try dsimp only at hSw); go_simp; try rfl) hHeld ?_
          go_frame
          refine wpAnyH_done (by kernel_rfl) ?_ _
          go_wp2_with fail
          go_ret2
          exact ⟨_, mp, ma, rfl, hRn, ab_trans hw2 hHeld⟩
    · rw [if_pos (by rfl)]
      refine mkmapW (some 44) rfl rfl ?_
      obtain ⟨V2, eW, M2, b12⟩ := ma_mk V1 N
      rw [eW]
      clear eW
      have lma := hb1.size
      have kma := M2.lt
      generalize hma : V1.heap.size = ma at M2 lma kma ⊢
      have O1 := O1.keep b12
      have hb2 := ab_trans hb1 b12
      refine hK.out _ _ hb2 (fun hHeld => ?_)
      clear hK K
      clear hHeld
      refine wpAnyH_ready (rs := [9, 11]) (by kernel_rfl) (by simp) (AllReadyH.cons rfl (fun K hK => ?_) (AllReadyH.cons rfl (fun K hK => ?_) AllReadyH.nil))
      · go_simp
        refine (rclone_any _ c.n _ (hn2'.keep hb2) (by omega)).mono ?_
        rintro e V3 ⟨u, rfl, O2, b13⟩
        show K _ _
        obtain ⟨q4, c4, eu⟩ := O2.is.form
        rw [hn2] at eu
        subst eu
        have O2 := O2.less (show W2.heap.size ≤ V2.heap.size from hb2.size)
        have O1 := O1.keep b13
        have M2 := M2.keep b13
        have kma := M2.lt
        have hb3 := ab_trans hb2 b13
        refine hK.out _ _ hb3 (fun hHeld => ?_)
        clear hK K
        refine takeH (i := 10) (some 42) rfl rfl (by kernel_rfl) (by kernel_rfl) (by kernel_rfl) (fun _ _ _ h => h) (by rfl) (fun w hSw => by (try dsimp only at hSw); go_simp; try rfl) hHeld ?_
        go_frame
        clear hHeld
        refine wpAnyH_ready (rs := [11]) (by kernel_rfl) (by simp) (AllReadyH.cons rfl (fun K hK => ?_) AllReadyH.nil)
        · rw [if_pos (by rfl)]
          refine mkmapW (some 43) rfl rfl ?_
          obtain ⟨V4, eW, M1, b14⟩ := mp_mk (G := G) V3 w.heap.size N
          rw [eW]
          clear eW
          have lmp := hb3.size
          have kmp := M1.lt
          generalize hmp : V3.heap.size = mp at M1 lmp kmp ⊢
          have O1 := O1.keep b14
          have M2 := M2.keep b14
          have kma := M2.lt
          have O2 := O2.keep b14
          have hb4 := ab_trans hb3 b14
          refine hK.out _ _ hb4 (fun hHeld => ?_)
          clear hK K
          clear hHeld
          have hHeld := hb4
          refine takeH (i := 13) (some 45) rfl rfl (by kernel_rfl) (by kernel_rfl) (by kernel_rfl) (fun _ _ _ h => h) (by rfl) (fun w hSw => by (try dsimp only at hSw); go_simp; try rfl) hHeld ?_
          go_frame
          refine wpAnyH_ready (rs := [14]) (by kernel_rfl) (by simp) (AllReadyH.cons rfl (fun K hK => ?_) AllReadyH.nil)
          go_simp
          have hBf := Blk.new V4 (rnC (begR N x c) mp ma (.slice q3 n1 c3) (.slice q4 n2 c4) (.slice none 0 0)) 81
          have bf : Below V4.heap.size V4 (V4.alloc (.cells (rnC (begR N x c) mp ma (.slice q3 n1 c3) (.slice q4 n2 c4) (.slice none 0 0)) 81)) := (Below.refl _ _).alloc (Nat.le_refl _) _
          have zf := hb4.size
          have hRn := beg_rn hBf (by omega : w.heap.size ≤ _) (by omega) (by omega) (by omega) (ig_new (O1.keep bf) (fun k hk => by have := hG k hk; omega) (by omega)) (ig_new (O2.keep bf) (fun k hk => by have := hG k hk; omega) (by omega)) (M1.keep bf) (M2.keep bf) hok
          refine hK.out _ _ (ab_trans hb4 bf) (fun hHeld => ?_)
          clear hK K
          refine takeH (i := 15) (some 6) rfl rfl (by kernel_rfl) (by kernel_rfl) (by kernel_rfl) (fun _ _ _ h => h) (by rfl) (fun w hSw => by (try dsimp only at hSw); go_simp; try rfl) hHeld ?_
          go_frame
          refine takeH (i := 16) (some 7) rfl rfl (by kernel_rfl) (by kernel_rfl) (by kernel_rfl) (fun _ _ _ h => h) (by rfl) (fun w hSw => by (try dsimp only at hSw); go_simp; try rfl) hHeld ?_
          go_frame
          refine wpAnyH_done (by kernel_rfl) ?_ _
          go_wp2_with fail
          go_ret2
          exact ⟨_, mp, ma, rfl, hRn, ab_trans hw2 hHeld⟩
      · rw [if_pos (by rfl)]
        refine mkmapW (some 43) rfl rfl ?_
        obtain ⟨V3, eW, M1, b13⟩ := mp_mk (G := G) V2 w.heap.size N
        rw [eW]
        clear eW
        have lmp := hb2.size
        have kmp := M1.lt
        generalize hmp : V2.heap.size = mp at M1 lmp kmp ⊢
        have O1 := O1.keep b13
        have M2 := M2.keep b13
        have kma := M2.lt
        have hb3 := ab_trans hb2 b13
        refine hK.out _ _ hb3 (fun hHeld => ?_)
        clear hK K
        clear hHeld
        refine wpAnyH_ready (rs := [9]) (by kernel_rfl) (by simp) (AllReadyH.cons rfl (fun K hK => ?_) AllReadyH.nil)
        · go_simp
          refine (rclone_any _ c.n _ (hn2'.keep hb3) (by omega)).mono ?_
          rintro e V4 ⟨u, rfl, O2, b14⟩
          show K _ _
          obtain ⟨q4, c4, eu⟩ := O2.is.form
          rw [hn2] at eu
          subst eu
          have O2 := O2.less (show W2.heap.size ≤ V3.heap.size from hb3.size)
          have O1 := O1.keep b14
          have M2 := M2.keep b14
          have kma := M2.lt
          have M1 := M1.keep b14
          have kmp := M1.lt
          have hb4 := ab_trans hb3 b14
          refine hK.out _ _ hb4 (fun hHeld => ?_)
          clear hK K
          refine takeH (i := 10) (some 42) rfl rfl (by kernel_rfl) (by kernel_rfl) (by kernel_rfl) (fun _ _ _ h => h) (by rfl) (fun w hSw => by (try dsimp only at hSw); go_simp; try rfl) hHeld ?_
          go_frame
          clear hHeld
          have hHeld := hb4
          refine takeH (i := 13) (some 45) rfl rfl (by kernel_rfl) (by kernel_rfl) (by kernel_rfl) (fun _ _ _ h => h) (by rfl) (fun w hSw => by (try dsimp only at hSw); go_simp; try rfl) hHeld ?_
          go_frame
          refine wpAnyH_ready (rs := [14]) (by kernel_rfl) (by simp) (AllReadyH.cons rfl (fun K hK => ?_) AllReadyH.nil)
          go_simp
          have hBf := Blk.new V4 (rnC (begR N x c) mp ma (.slice q3 n1 c3) (.slice q4 n2 c4) (.slice none 0 0)) 81
          have bf : Below V4.heap.size V4 (V4.alloc (.cells (rnC (begR N x c) mp ma (.slice q3 n1 c3) (.slice q4 n2 c4) (.slice none 0 0)) 81)) := (Below.refl _ _).alloc (Nat.le_refl _) _
          have zf := hb4.size
          have hRn := beg_rn hBf (by omega : w.heap.size ≤ _) (by omega) (by omega) (by omega) (ig_new (O1.keep bf) (fun k hk => by have := hG k hk; omega) (by omega)) (ig_new (O2.keep bf) (fun k hk => by have := hG k hk; omega) (by omega)) (M1.keep bf) (M2.keep bf) hok
          refine hK.out _ _ (ab_trans hb4 bf) (fun hHeld => ?_)
          clear hK K
          refine takeH (i := 15) (some 6) rfl rfl (by kernel_rfl) (by kernel_rfl) (by kernel_rfl) (fun _ _ _ h => h) (by rfl) (fun w hSw => by (try dsimp only at hSw); go_simp; try rfl) hHeld ?_
          go_frame
          refine takeH (i := 16) (some 7) rfl rfl (by kernel_rfl) (by kernel_rfl) (by kernel_rfl) (fun _ _ _ h => h) (by rfl) (fun w hSw => by (try dsimp only at hSw); go_simp; try rfl) hHeld ?_
          go_frame
          refine wpAnyH_done (by kernel_rfl) ?_ _
          go_wp2_with fail
          go_ret2
          exact ⟨_, mp, ma, rfl, hRn, ab_trans hw2 hHeld⟩
  · rw [if_pos (by rfl)]
    refine mkmapW (some 43) rfl rfl ?_
    obtain ⟨V1, eW, M1, b11⟩ := mp_mk (G := G) V0 w.heap.size N
    rw [eW]
    clear eW
    have lmp := hb0.size
    have kmp := M1.lt
    generalize hmp : V0.heap.size = mp at M1 lmp kmp ⊢
    have hb1 := ab_trans hb0 b11
    refine hK.out _ _ hb1 (fun hHeld => ?_)
    clear hK K
    clear hHeld
    refine wpAnyH_ready (rs := [6, 12]) (by kernel_rfl) (by simp) (AllReadyH.cons rfl (fun K hK => ?_) (AllReadyH.cons rfl (fun K hK => ?_) AllReadyH.nil))
    · go_simp
      refine (rclone_any _ c.o _ (ho2.keep hb1) (by omega)).mono ?_
      rintro e V2 ⟨u, rfl, O1, b12⟩
      show K _ _
      obtain ⟨q3, c3, eu⟩ := O1.is.form
      rw [hn1] at eu
      subst eu
      have O1 := O1.less (show W2.heap.size ≤ V1.heap.size from hb1.size)
      have M1 := M1.keep b12
      have kmp := M1.lt
      have hb2 := ab_trans hb1 b12
      refine hK.out _ _ hb2 (fun hHeld => ?_)
      clear hK K
      clear hHeld
      refine wpAnyH_ready (rs := [9, 12]) (by kernel_rfl) (by simp) (AllReadyH.cons rfl (fun K hK => ?_) (AllReadyH.cons rfl (fun K hK => ?_) AllReadyH.nil))
      · go_simp
        refine (rclone_any _ c.n _ (hn2'.keep hb2) (by omega)).mono ?_
        rintro e V3 ⟨u, rfl, O2, b13⟩
        show K _ _
        obtain ⟨q4, c4, eu⟩ := O2.is.form
        rw [hn2] at eu
        subst eu
        have O2 := O2.less (show W2.heap.size ≤ V2.heap.size from hb2.size)
        have M1 := M1.keep b13
        have kmp := M1.lt
        have O1 := O1.keep b13
        have hb3 := ab_trans hb2 b13
        refine hK.out _ _ hb3 (fun hHeld => ?_)
        clear hK K
        refine takeH (i := 10) (some 42) rfl rfl (by kernel_rfl) (by kernel_rfl) (by kernel_rfl) (fun _ _ _ h => h) (by rfl) (fun w hSw => by (try dsimp only at hSw); go_simp; try rfl) hHeld ?_
        go_frame
        clear hHeld
        refine wpAnyH_ready (rs := [12]) (by kernel_rfl) (by simp) (AllReadyH.cons rfl (fun K hK => ?_) AllReadyH.nil)
        · rw [if_pos (by rfl)]
          refine mkmapW (some 44) rfl rfl ?_
          obtain ⟨V4, eW, M2, b14⟩ := ma_mk V3 N
          rw [eW]
          clear eW
          have lma := hb3.size
          have kma := M2.lt
          generalize hma : V3.heap.size = ma at M2 lma kma ⊢
          have M1 := M1.keep b14
          have kmp := M1.lt
          have O1 := O1.keep b14
          have O2 := O2.keep b14
          have hb4 := ab_trans hb3 b14
          refine hK.out _ _ hb4 (fun hHeld => ?_)
          clear hK K
          clear hHeld
          have hHeld := hb4
          refine takeH (i := 13) (some 45) rfl rfl (by kernel_rfl) (by kernel_rfl) (by kernel_rfl) (fun _ _ _ h => h) (by rfl) (fun w hSw => by (try dsimp only at hSw); go_simp; try rfl) hHeld ?_
          go_frame
          refine wpAnyH_ready (rs := [14]) (by kernel_rfl) (by simp) (AllReadyH.cons rfl (fun K hK => ?_) AllReadyH.nil)
          go_simp
          have hBf := Blk.new V4 (rnC (begR N x c) mp ma (.slice q3 n1 c3) (.slice q4 n2 c4) (.slice none 0 0)) 81
          have bf : Below V4.heap.size V4 (V4.alloc (.cells (rnC (begR N x c) mp ma (.slice q3 n1 c3) (.slice q4 n2 c4) (.slice none 0 0)) 81)) := (Below.refl _ _).alloc (Nat.le_refl _) _
          have zf := hb4.size
          have hRn := beg_rn hBf (by omega : w.heap.size ≤ _) (by omega) (by omega) (by omega) (ig_new (O1.keep bf) (fun k hk => by have := hG k hk; omega) (by omega)) (ig_new (O2.keep bf) (fun k hk => by have := hG k hk; omega) (by omega)) (M1.keep bf) (M2.keep bf) hok
          refine hK.out _ _ (ab_trans hb4 bf) (fun hHeld => ?_)
          clear hK K
          refine takeH (i := 15) (some 6) rfl rfl (by kernel_rfl) (by kernel_rfl) (by kernel_rfl) (fun _ _ _ h => h) (by rfl) (fun w hSw => by (try dsimp only at hSw); go_simp; try rfl) hHeld ?_
          go_frame
          refine takeH (i := 16) (some 7) rfl rfl (by kernel_rfl) (by kernel_rfl) (by kernel_rfl) (fun _ _ _ h => h) (by rfl) (fun w hSw => by (try dsimp only at hSw); go_simp; try rfl) hHeld ?_
          go_frame
          refine wpAnyH_done (by kernel_rfl) ?_ _
          go_wp2_with fail
          go_ret2
          exact ⟨_, mp, ma, rfl, hRn, ab_trans hw2 hHeld⟩
      · rw [if_pos (by rfl)]
        refine mkmapW (some 44) rfl rfl ?_
        obtain ⟨V3, eW, M2, b13⟩ := ma_mk V2 N
        rw [eW]
        clear eW
        have lma := hb2.size
        have kma := M2.lt
        generalize hma : V2.heap.size = ma at M2 lma kma ⊢
        have M1 := M1.keep b13
        have kmp := M1.lt
        have O1 := O1.keep b13
        have hb3 := ab_trans hb2 b13
        refine hK.out _ _ hb3 (fun hHeld => ?_)
        clear hK K
        clear hHeld
        refine wpAnyH_ready (rs := [9]) (by kernel_rfl) (by simp) (AllReadyH.cons rfl (fun K hK => ?_) AllReadyH.nil)
        · go_simp
          refine (rclone_any _ c.n _ (hn2'.keep hb3) (by omega)).mono ?_
          rintro e V4 ⟨u, rfl, O2, b14⟩
          show K _ _
          obtain ⟨q4, c4, eu⟩ := O2.is.form
          rw [hn2] at eu
          subst eu
          have O2 := O2.less (show W2.heap.size ≤ V3.heap.size from hb3.size)
          have M1 := M1.keep b14
          have kmp := M1.lt
          have O1 := O1.keep b14
          have M2 := M2.keep b14
          have kma := M2.lt
          have hb4 := ab_trans hb3 b14
          refine hK.out _ _ hb4 (fun hHeld => ?_)
          clear hK K
          refine takeH (i := 10) (some 42) rfl rfl (by kernel_rfl) (by kernel_rfl) (by kernel_rfl) (fun _ _ _ h => h) (by rfl) (fun w hSw => by (try dsimp only at hSw); go_simp; try rfl) hHeld ?_
          go_frame
          clear hHeld
          have hHeld := hb4
          refine takeH (i := 13) (some 45) rfl rfl (by kernel_rfl) (by kernel_rfl) (by kernel_rfl) (fun _ _ _ h => h) (by rfl) (fun w hSw => by (try dsimp only at hSw); go_simp; try rfl) hHeld ?_
          go_frame
          refine wpAnyH_ready (rs := [14]) (by kernel_rfl) (by simp) (AllReadyH.cons rfl (fun K hK => ?_) AllReadyH.nil)
          go_simp
          have hBf := Blk.new V4 (rnC (begR N x c) mp ma (.slice q3 n1 c3) (.slice q4 n2 c4) (.slice none 0 0)) 81
          have bf : Below V4.heap.size V4 (V4.alloc (.cells (rnC (begR N x c) mp ma (.slice q3 n1 c3) (.slice q4 n2 c4) (.slice none 0 0)) 81)) := (Below.refl _ _).alloc (Nat.le_refl _) _
          have zf := hb4.size
          have hRn := beg_rn hBf (by omega : w.heap.size ≤ _) (by omega) (by omega) (by omega) (ig_new (O1.keep bf) (fun k hk => by have := hG k hk; omega) (by omega)) (ig_new (O2.keep bf) (fun k hk => by have := hG k hk; omega) (by omega)) (M1.keep bf) (M2.keep bf) hok
          refine hK.out _ _ (ab_trans hb4 bf) (fun hHeld => ?_)
          clear hK K
          refine takeH (i := 15) (some 6) rfl rfl (by kernel_rfl) (by kernel_rfl) (by kernel_rfl) (fun _ _ _ h => h) (by rfl) (fun w hSw => by (try dsimp only at hSw); go_simp; try rfl) hHeld ?_
          go_frame
          refine takeH (i := 16) (some 7) rfl rfl (by kernel_rfl) (by kernel_rfl) (by kernel_rfl) (fun _ _ _ h => h) (by rfl) (fun w hSw => by (try dsimp only at hSw); go_simp; try rfl) hHeld ?_
          go_frame
          refine wpAnyH_done (by kernel_rfl) ?_ _
          go_wp2_with fail
          go_ret2
          exact ⟨_, mp, ma, rfl, hRn, ab_trans hw2 hHeld⟩
    · rw [if_pos (by rfl)]
      refine mkmapW (some 44) rfl rfl ?_
      obtain ⟨V2, eW, M2, b12⟩ := ma_mk V1 N
      rw [eW]
      clear eW
      have lma := hb1.size
      have kma := M2.lt
      generalize hma : V1.heap.size = ma at M2 lma kma ⊢
      have M1 := M1.keep b12
      have kmp := M1.lt
      have hb2 := ab_trans hb1 b12
      refine hK.out _ _ hb2 (fun hHeld => ?_)
      clear hK K
      clear hHeld
      refine wpAnyH_ready (rs := [6]) (by kernel_rfl) (by simp) (AllReadyH.cons rfl (fun K hK => ?_) AllReadyH.nil)
      · go_simp
        refine (rclone_any _ c.o _ (ho2.keep hb2) (by omega)).mono ?_
        rintro e V3 ⟨u, rfl, O1, b13⟩
        show K _ _
        obtain ⟨q3, c3, eu⟩ := O1.is.form
        rw [hn1] at eu
        subst eu
        have O1 := O1.less (show W2.heap.size ≤ V2.heap.size from hb2.size)
        have M1 := M1.keep b13
        have kmp := M1.lt
        have M2 := M2.keep b13
        have kma := M2.lt
        have hb3 := ab_trans hb2 b13
        refine hK.out _ _ hb3 (fun hHeld => ?_)
        clear hK K
        clear hHeld
        refine wpAnyH_ready (rs := [9]) (by kernel_rfl) (by simp) (AllReadyH.cons rfl (fun K hK => ?_) AllReadyH.nil)
        · go_simp
          refine (rclone_any _ c.n _ (hn2'.keep hb3) (by omega)).mono ?_
          rintro e V4 ⟨u, rfl, O2, b14⟩
          show K _ _
          obtain ⟨q4, c4, eu⟩ := O2.is.form
          rw [hn2] at eu
          subst eu
          have O2 := O2.less (show W2.heap.size ≤ V3.heap.size from hb3.size)
          have M1 := M1.keep b14
          have kmp := M1.lt
          have M2 := M2.keep b14
          have kma := M2.lt
          have O1 := O1.keep b14
          have hb4 := ab_trans hb3 b14
          refine hK.out _ _ hb4 (fun hHeld => ?_)
          clear hK K
          refine takeH (i := 10) (some 42) rfl rfl (by kernel_rfl) (by kernel_rfl) (by kernel_rfl) (fun _ _ _ h => h) (by rfl) (fun w hSw => by (try dsimp only at hSw); go_simp; try rfl) hHeld ?_
          go_frame
          clear hHeld
          have hHeld := hb4
          refine takeH (i := 13) (some 45) rfl rfl (by kernel_rfl) (by kernel_rfl) (by kernel_rfl) (fun _ _ _ h => h) (by rfl) (fun w hSw => by (try dsimp only at hSw); go_simp; try rfl) hHeld ?_
          go_frame
          refine wpAnyH_ready (rs := [14]) (by kernel_rfl) (by simp) (AllReadyH.cons rfl (fun K hK => ?_) AllReadyH.nil)
          go_simp
          have hBf := Blk.new V4 (rnC (begR N x c) mp ma (.slice q3 n1 c3) (.slice q4 n2 c4) (.slice none 0 0)) 81
          have bf : Below V4.heap.size V4 (V4.alloc (.cells (rnC (begR N x c) mp ma (.slice q3 n1 c3) (.slice q4 n2 c4) (.slice none 0 0)) 81)) := (Below.refl _ _).alloc (Nat.le_refl _) _
          have zf := hb4.size
          have hRn := beg_rn hBf (by omega : w.heap.size ≤ _) (by omega) (by omega) (by omega) (ig_new (O1.keep bf) (fun k hk => by have := hG k hk; omega) (by omega)) (ig_new (O2.keep bf) (fun k hk => by have := hG k hk; omega) (by omega)) (M1.keep bf) (M2.keep bf) hok
          refine hK.out _ _ (ab_trans hb4 bf) (fun hHeld => ?_)
          clear hK K
          refine takeH (i := 15) (some 6) rfl rfl (by kernel_rfl) (by kernel_rfl) (by kernel_rfl) (fun _ _ _ h => h) (by rfl) (fun w hSw => by (try dsimp only at hSw); go_simp; try rfl) hHeld ?_
          go_frame
          refine takeH (i := 16) (some 7) rfl rfl (by kernel_rfl) (by kernel_rfl) (by kernel_rfl) (fun _ _ _ h => h) (by rfl) (fun w hSw => by (try dsimp only at hSw); go_simp; try rfl) hHeld ?_
          go_frame
          refine wpAnyH_done (by kernel_rfl) ?_ _
          go_wp2_with fail
          go_ret2
          exact ⟨_, mp, ma, rfl, hRn, ab_trans hw2 hHeld⟩
  · rw [if_pos (by rfl)]
    refine mkmapW (some 44) rfl rfl ?_
    obtain ⟨V1, eW, M2, b11⟩ := ma_mk V0 N
    rw [eW]
    clear eW
    have lma := hb0.size
    have kma := M2.lt
    generalize hma : V0.heap.size = ma at M2 lma kma ⊢
    have hb1 := ab_trans hb0 b11
    refine hK.out _ _ hb1 (fun hHeld => ?_)
    clear hK K
    clear hHeld
    refine wpAnyH_ready (rs := [6, 11]) (by kernel_rfl) (by simp) (AllReadyH.cons rfl (fun K hK => ?_) (AllReadyH.cons rfl (fun K hK => ?_) AllReadyH.nil))
    · go_simp
      refine (rclone_any _ c.o _ (ho2.keep hb1) (by omega)).mono ?_
      rintro e V2 ⟨u, rfl, O1, b12⟩
      show K _ _
      obtain ⟨q3, c3, eu⟩ := O1.is.form
      rw [hn1] at eu
      subst eu
      have O1 := O1.less (show W2.heap.size ≤ V1.heap.size from hb1.size)
      have M2 := M2.keep b12
      have kma := M2.lt
      have hb2 := ab_trans hb1 b12
      refine hK.out _ _ hb2 (fun hHeld => ?_)
      clear hK K
      clear hHeld
      refine wpAnyH_ready (rs := [9, 11]) (by kernel_rfl) (by simp) (AllReadyH.cons rfl (fun K hK => ?_) (AllReadyH.cons rfl (fun K hK => ?_) AllReadyH.nil))
      · go_simp
        refine (rclone_any _ c.n _ (hn2'.keep hb2) (by omega)).mono ?_
        rintro e V3 ⟨u, rfl, O2, b13⟩
        show K _ _
        obtain ⟨q4, c4, eu⟩ := O2.is.form
        rw [hn2] at eu
        subst eu
        have O2 := O2.less (show W2.heap.size ≤ V2.heap.size from hb2.size)
        have M2 := M2.keep b13
        have kma := M2.lt
        have O1 := O1.keep b13
        have hb3 := ab_trans hb2 b13
        refine hK.out _ _ hb3 (fun hHeld => ?_)
        clear hK K
        refine takeH (i := 10) (some 42) rfl rfl (by kernel_rfl) (by kernel_rfl) (by kernel_rfl) (fun _ _ _ h => h) (by rfl) (fun w hSw => by (try dsimp only at hSw); go_simp; try rfl) hHeld ?_
        go_frame
        clear hHeld
        refine wpAnyH_ready (rs := [11]) (by kernel_rfl) (by simp) (AllReadyH.cons rfl (fun K hK => ?_) AllReadyH.nil)
        · rw [if_pos (by rfl)]
          refine mkmapW (some 43) rfl rfl ?_
          obtain ⟨V4, eW, M1, b14⟩ := mp_mk (G := G) V3 w.heap.size N
          rw [eW]
          clear eW
          have lmp := hb3.size
          have kmp := M1.lt
          generalize hmp : V3.heap.size = mp at M1 lmp kmp ⊢
          have M2 := M2.keep b14
          have kma := M2.lt
          have O1 := O1.keep b14
          have O2 := O2.keep b14
          have hb4 := ab_trans hb3 b14
          refine hK.out _ _ hb4 (fun hHeld => ?_)
          clear hK K
          clear hHeld
          have hHeld := hb4
          refine takeH (i := 13) (some 45) rfl rfl (by kernel_rfl) (by kernel_rfl) (by kernel_rfl) (fun _ _ _ h => h) (by rfl) (fun w hSw => by (try dsimp only at hSw); go_simp; try rfl) hHeld ?_
          go_frame
          refine wpAnyH_ready (rs := [14]) (by kernel_rfl) (by simp) (AllReadyH.cons rfl (fun K hK => ?_) AllReadyH.nil)
          go_simp
          have hBf := Blk.new V4 (rnC (begR N x c) mp ma (.slice q3 n1 c3) (.slice q4 n2 c4) (.slice none 0 0)) 81
          have bf : Below V4.heap.size V4 (V4.alloc (.cells (rnC (begR N x c) mp ma (.slice q3 n1 c3) (.slice q4 n2 c4) (.slice none 0 0)) 81)) := (Below.refl _ _).alloc (Nat.le_refl _) _
          have zf := hb4.size
          have hRn := beg_rn hBf (by omega : w.heap.size ≤ _) (by omega) (by omega) (by omega) (ig_new (O1.keep bf) (fun k hk => by have := hG k hk; omega) (by omega)) (ig_new (O2.keep bf) (fun k hk => by have := hG k hk; omega) (by omega)) (M1.keep bf) (M2.keep bf) hok
          refine hK.out _ _ (ab_trans hb4 bf) (fun hHeld => ?_)
          clear hK K
          refine takeH (i := 15) (some 6) rfl rfl (by kernel_rfl) (by kernel_rfl) (by kernel_rfl) (fun _ _ _ h => h) (by rfl) (fun w hSw => by (try dsimp only at hSw); go_simp; try rfl) hHeld ?_
          go_frame
          refine takeH (i := 16) (some 7) rfl rfl (by kernel_rfl) (by kernel_rfl) (by kernel_rfl) (fun _ _ _ h => h) (by rfl) (fun w hSw => by (try dsimp only at hSw); go_simp; try rfl) hHeld ?_
          go_frame
          refine wpAnyH_done (by kernel_rfl) ?_ _
          go_wp2_with fail
          go_ret2
          exact ⟨_, mp, ma, rfl, hRn, ab_trans hw2 hHeld⟩
      · rw [if_pos (by rfl)]
        refine mkmapW (some 43) rfl rfl ?_
        obtain ⟨V3, eW, M1, b13⟩ := mp_mk (G := G) V2 w.heap.size N
        rw [eW]
        clear eW
        have lmp := hb2.size
        have kmp := M1.lt
        generalize hmp : V2.heap.size = mp at M1 lmp kmp ⊢
        have M2 := M2.keep b13
        have kma := M2.lt
        have O1 := O1.keep b13
        have hb3 := ab_trans hb2 b13
        refine hK.out _ _ hb3 (fun hHeld => ?_)
        clear hK K
        clear hHeld
        refine wpAnyH_ready (rs := [9]) (by kernel_rfl) (by simp) (AllReadyH.cons rfl (fun K hK => ?_) AllReadyH.nil)
        · go_simp
          refine (rclone_any _ c.n _ (hn2'.keep hb3) (by omega)).mono ?_
          rintro e V4 ⟨u, rfl, O2, b14⟩
          show K _ _
          obtain ⟨q4, c4, eu⟩ := O2.is.form
          rw [hn2] at eu
          subst eu
          have O2 := O2.less (show W2.heap.size ≤ V3.heap.size from hb3.size)
          have M2 := M2.keep b14
          have kma := M2.lt
          have O1 := O1.keep b14
          have M1 := M1.keep b14
          have kmp := M1.lt
          have hb4 := ab_trans hb3 b14
          refine hK.out _ _ hb4 (fun hHeld => ?_)
          clear hK K
          refine takeH (i := 10) (some 42) rfl rfl (by kernel_rfl) (by kernel_rfl) (by kernel_rfl) (fun _ _ _ h => h) (by rfl) (fun w hSw => by (try dsimp only at hSw); go_simp; try rfl) hHeld ?_
          go_frame
          clear hHeld
          have hHeld := hb4
          refine takeH (i := 13) (some 45) rfl rfl (by kernel_rfl) (by kernel_rfl) (by kernel_rfl) (fun _ _ _ h => h) (by rfl) (fun w hSw => by (try dsimp only at hSw); go_simp; try rfl) hHeld ?_
          go_frame
          refine wpAnyH_ready (rs := [14]) (by kernel_rfl) (by simp) (AllReadyH.cons rfl (fun K hK => ?_) AllReadyH.nil)
          go_simp
          have hBf := Blk.new V4 (rnC (begR N x c) mp ma (.slice q3 n1 c3) (.slice q4 n2 c4) (.slice none 0 0)) 81
          have bf : Below V4.heap.size V4 (V4.alloc (.cells (rnC (begR N x c) mp ma (.slice q3 n1 c3) (.slice q4 n2 c4) (.slice none 0 0)) 81)) := (Below.refl _ _).alloc (Nat.le_refl _) _
          have zf := hb4.size
          have hRn := beg_rn hBf (by omega : w.heap.size ≤ _) (by omega) (by omega) (by omega) (ig_new (O1.keep bf) (fun k hk => by have := hG k hk; omega) (by omega)) (ig_new (O2.keep bf) (fun k hk => by have := hG k hk; omega) (by omega)) (M1.keep bf) (M2.keep bf) hok
          refine hK.out _ _ (ab_trans hb4 bf) (fun hHeld => ?_)
          clear hK K
          refine takeH (i := 15) (some 6) rfl rfl (by kernel_rfl) (by kernel_rfl) (by kernel_rfl) (fun _ _ _ h => h) (by rfl) (fun w hSw => by (try dsimp only at hSw); go_simp; try rfl) hHeld ?_
          go_frame
          refine takeH (i := 16) (some 7) rfl rfl (by kernel_rfl) (by kernel_rfl) (by kernel_rfl) (fun _ _ _ h => h) (by rfl) (fun w hSw => by (try dsimp only at hSw); go_simp; try rfl) hHeld ?_
          go_frame
          refine wpAnyH_done (by kernel_rfl) ?_ _
          go_wp2_with fail
          go_ret2
          exact ⟨_, mp, ma, rfl, hRn, ab_trans hw2 hHeld⟩
    · rw [if_pos (by rfl)]
      refine mkmapW (some 43) rfl rfl ?_
      obtain ⟨V2, eW, M1, b12⟩ := mp_mk (G := G) V1 w.heap.size N
      rw [eW]
      clear eW
      have lmp := hb1.size
      have kmp := M1.lt
      generalize hmp : V1.heap.size = mp at M1 lmp kmp ⊢
      have M2 := M2.keep b12
      have kma := M2.lt
      have hb2 := ab_trans hb1 b12
      refine hK.out _ _ hb2 (fun hHeld => ?_)
      clear hK K
      clear hHeld
      refine wpAnyH_ready (rs := [6]) (by kernel_rfl) (by simp) (AllReadyH.cons rfl (fun K hK => ?_) AllReadyH.nil)
      · go_simp
        refine (rclone_any _ c.o _ (ho2.keep hb2) (by omega)).mono ?_
        rintro e V3 ⟨u, rfl, O1, b13⟩
        show K _ _
        obtain ⟨q3, c3, eu⟩ := O1.is.form
        rw [hn1] at eu
        subst eu
        have O1 := O1.less (show W2.heap.size ≤ V2.heap.size from hb2.size)
        have M2 := M2.keep b13
        have kma := M2.lt
        have M1 := M1.keep b13
        have kmp := M1.lt
        have hb3 := ab_trans hb2 b13
        refine hK.out _ _ hb3 (fun hHeld => ?_)
        clear hK K
        clear hHeld
        refine wpAnyH_ready (rs := [9]) (by kernel_rfl) (by simp) (AllReadyH.cons rfl (fun K hK => ?_) AllReadyH.nil)
        · go_simp
          refine (rclone_any _ c.n _ (hn2'.keep hb3) (by omega)).mono ?_
          rintro e V4 ⟨u, rfl, O2, b14⟩
          show K _ _
          obtain ⟨q4, c4, eu⟩ := O2.is.form
          rw [hn2] at eu
          subst eu
          have O2 := O2.less (show W2.heap.size ≤ V3.heap.size from hb3.size)
          have M2 := M2.keep b14
          have kma := M2.lt
          have M1 := M1.keep b14
          have kmp := M1.lt
          have O1 := O1.keep b14
          have hb4 := ab_trans hb3 b14
          refine hK.out _ _ hb4 (fun hHeld => ?_)
          clear hK K
          refine takeH (i := 10) (some 42) rfl rfl (by kernel_rfl) (by kernel_rfl) (by kernel_rfl) (fun _ _ _ h => h) (by rfl) (fun w hSw => by (try dsimp only at hSw); go_simp; try rfl) hHeld ?_
          go_frame
          clear hHeld
          have hHeld := hb4
          refine takeH (i := 13) (some 45) rfl rfl (by kernel_rfl) (by kernel_rfl) (by kernel_rfl) (fun _ _ _ h => h) (by rfl) (fun w hSw => by (try dsimp only at hSw); go_simp; try rfl) hHeld ?_
          go_frame
          refine wpAnyH_ready (rs := [14]) (by kernel_rfl) (by simp) (AllReadyH.cons rfl (fun K hK => ?_) AllReadyH.nil)
          go_simp
          have hBf := Blk.new V4 (rnC (begR N x c) mp ma (.slice q3 n1 c3) (.slice q4 n2 c4) (.slice none 0 0)) 81
          have bf : Below V4.heap.size V4 (V4.alloc (.cells (rnC (begR N x c) mp ma (.slice q3 n1 c3) (.slice q4 n2 c4) (.slice none 0 0)) 81)) := (Below.refl _ _).alloc (Nat.le_refl _) _
          have zf := hb4.size
          have hRn := beg_rn hBf (by omega : w.heap.size ≤ _) (by omega) (by omega) (by omega) (ig_new (O1.keep bf) (fun k hk => by have := hG k hk; omega) (by omega)) (ig_new (O2.keep bf) (fun k hk => by have := hG k hk; omega) (by omega)) (M1.keep bf) (M2.keep bf) hok
          refine hK.out _ _ (ab_trans hb4 bf) (fun hHeld => ?_)
          clear hK K
          refine takeH (i := 15) (some 6) rfl rfl (by kernel_rfl) (by kernel_rfl) (by kernel_rfl) (fun _ _ _ h => h) (by rfl) (fun w hSw => by (try dsimp only at hSw); go_simp; try rfl) hHeld ?_
          go_frame
          refine takeH (i := 16) (some 7) rfl rfl (by kernel_rfl) (by kernel_rfl) (by kernel_rfl) (fun _ _ _ h => h) (by rfl) (fun w hSw => by (try dsimp only at hSw); go_simp; try rfl) hHeld ?_
          go_frame
          refine wpAnyH_done (by kernel_rfl) ?_ _
          go_wp2_with fail
          go_ret2
          exact ⟨_, mp, ma, rfl, hRn, ab_trans hw2 hHeld⟩
end Go.Proofs.Ytodmhohccclhmaa
