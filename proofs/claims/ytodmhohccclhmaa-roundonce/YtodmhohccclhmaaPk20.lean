/-
  The document's Begin (written out by wip/tools/refbegin11.py: six orders of one region).
-/
import Derived.Test.YtodmhohccclhmaaPk19
namespace Go.Proofs.Ytodmhohccclhmaa
open Go.RowKit
set_option linter.unusedVariables false
set_option maxRecDepth 100000

abbrev r0D : RrD := ⟨zB, zB, .slice none 0 0, []⟩
theorem mk_bl1 (w : World) : (Instr.makeSlice 90 (.int .i64 1) (.int .i64 1)).run Try.prog w = .ok (.slice (some ⟨w.heap.size, 0, none⟩) 1 1) (w.alloc (.cells (bls (List.replicate 1 false)) 4)) := by kernel_rfl
theorem mk_bl2 (w : World) : (Instr.makeSlice 90 (.int .i64 2) (.int .i64 2)).run Try.prog w = .ok (.slice (some ⟨w.heap.size, 0, none⟩) 2 2) (w.alloc (.cells (bls (List.replicate 2 false)) 4)) := by kernel_rfl
theorem mk_bl3 (w : World) : (Instr.makeSlice 90 (.int .i64 3) (.int .i64 3)).run Try.prog w = .ok (.slice (some ⟨w.heap.size, 0, none⟩) 3 3) (w.alloc (.cells (bls (List.replicate 3 false)) 4)) := by kernel_rfl
theorem mk_bl4 (w : World) : (Instr.makeSlice 90 (.int .i64 4) (.int .i64 4)).run Try.prog w = .ok (.slice (some ⟨w.heap.size, 0, none⟩) 4 4) (w.alloc (.cells (bls (List.replicate 4 false)) 4)) := by kernel_rfl
theorem mk_bl5 (w : World) : (Instr.makeSlice 90 (.int .i64 5) (.int .i64 5)).run Try.prog w = .ok (.slice (some ⟨w.heap.size, 0, none⟩) 5 5) (w.alloc (.cells (bls (List.replicate 5 false)) 4)) := by kernel_rfl
theorem mk_bl {N : Nat} (h1 : 1 ≤ N) (h5 : N ≤ 5) (w : World) : (Instr.makeSlice 90 (.int .i64 (N : Int)) (.int .i64 (N : Int))).run Try.prog w = .ok (.slice (some ⟨w.heap.size, 0, none⟩) N N) (w.alloc (.cells (bls (List.replicate N false)) 4)) := by
  have : N = 1 ∨ N = 2 ∨ N = 3 ∨ N = 4 ∨ N = 5 := by omega
  rcases this with rfl | rfl | rfl | rfl | rfl
  · exact mk_bl1 w
  · exact mk_bl2 w
  · exact mk_bl3 w
  · exact mk_bl4 w
  · exact mk_bl5 w
theorem mk_rg1 (w : World) : (Instr.makeSlice 36 (.int .i64 1) (.int .i64 1)).run Try.prog w = .ok (.slice (some ⟨w.heap.size, 0, none⟩) 1 1) (w.alloc (.cells (flR (List.replicate 1 r0D)).toArray 61)) := by kernel_rfl
theorem mk_rg2 (w : World) : (Instr.makeSlice 36 (.int .i64 2) (.int .i64 2)).run Try.prog w = .ok (.slice (some ⟨w.heap.size, 0, none⟩) 2 2) (w.alloc (.cells (flR (List.replicate 2 r0D)).toArray 61)) := by kernel_rfl
theorem mk_rg3 (w : World) : (Instr.makeSlice 36 (.int .i64 3) (.int .i64 3)).run Try.prog w = .ok (.slice (some ⟨w.heap.size, 0, none⟩) 3 3) (w.alloc (.cells (flR (List.replicate 3 r0D)).toArray 61)) := by kernel_rfl
theorem mk_rg4 (w : World) : (Instr.makeSlice 36 (.int .i64 4) (.int .i64 4)).run Try.prog w = .ok (.slice (some ⟨w.heap.size, 0, none⟩) 4 4) (w.alloc (.cells (flR (List.replicate 4 r0D)).toArray 61)) := by kernel_rfl
theorem mk_rg5 (w : World) : (Instr.makeSlice 36 (.int .i64 5) (.int .i64 5)).run Try.prog w = .ok (.slice (some ⟨w.heap.size, 0, none⟩) 5 5) (w.alloc (.cells (flR (List.replicate 5 r0D)).toArray 61)) := by kernel_rfl
theorem mk_rg {N : Nat} (h1 : 1 ≤ N) (h5 : N ≤ 5) (w : World) : (Instr.makeSlice 36 (.int .i64 (N : Int)) (.int .i64 (N : Int))).run Try.prog w = .ok (.slice (some ⟨w.heap.size, 0, none⟩) N N) (w.alloc (.cells (flR (List.replicate N r0D)).toArray 61)) := by
  have : N = 1 ∨ N = 2 ∨ N = 3 ∨ N = 4 ∨ N = 5 := by omega
  rcases this with rfl | rfl | rfl | rfl | rfl
  · exact mk_rg1 w
  · exact mk_rg2 w
  · exact mk_rg3 w
  · exact mk_rg4 w
  · exact mk_rg5 w
section
variable {o : Oper} {a : Act} {w : World} {K : Act → World → Prop} {Q : Exit → Act → World → Prop}
theorem mkSW (d : Option Tmp) (hd : o.dst = d) {t : TypeId} {x y : Operand} (ho : o.op = .makeSlice t x y) {vx vy v : Value} {w' : World} (hx : a.eval x = vx) (hy : a.eval y = vy) (hr : (Instr.makeSlice t vx vy).run Try.prog w = .ok v w') (h : K (a.put d v) w') : o.wp Try.prog a w K Q := by
  subst hd
  unfold Oper.wp execOp
  simp only [ho, Sem.run_bind, hx, hy, hr, Result.andThen_ok]
  exact h
end
theorem noEq (x : Bt) (w : World) : (binOp .eql 23 (bV x) (.agg #[.int .i64 0, .int .i64 0, .int .i64 0])).run Try.prog w = .ok (.bool (noB x)) w := eqBt x zB w
theorem has_rep (N : Nat) : hasL (List.replicate N none) = List.replicate N false := by unfold hasL; rw [List.map_replicate]; rfl
theorem rgs_rep (W0 : World) (N : Nat) : RgsOK W0 (List.replicate N r0D) (List.replicate N none) := by
  refine ⟨by simp, fun k a l h => ?_⟩
  have := List.eq_of_mem_replicate (List.mem_of_getElem? h)
  cases this
theorem slr_rep (N : Nat) : SlR (List.replicate N r0D) := fun r hr => by
  have := List.eq_of_mem_replicate hr
  subst this
  exact ⟨_, _, _, rfl⟩
theorem rbeg_cases {n : Int} {x : Bt} {c : Cg} (h : begOK n x c = false) : n < 1 ∨ 5 < n ∨ (1 ≤ n ∧ n ≤ 5 ∧ (x.n < 0 ∨ (0 ≤ x.n ∧ x.nd < 0) ∨ (0 ≤ x.n ∧ 0 ≤ x.nd ∧ x.lf < 0) ∨ (0 ≤ x.n ∧ 0 ≤ x.nd ∧ 0 ≤ x.lf ∧ noB x = true) ∨ (0 ≤ x.n ∧ 0 ≤ x.nd ∧ 0 ≤ x.lf ∧ noB x = false ∧ gdG c = false))) := by
  rcases beg_cases h with h1 | h1 | ⟨h1, h2, h3⟩ | ⟨h1, h2, h3, h4⟩
  · exact .inl h1
  · exact .inr (.inl h1)
  · refine .inr (.inr ⟨h1, h2, ?_⟩)
    by_cases a1 : 0 ≤ x.n
    · by_cases a2 : 0 ≤ x.nd
      · by_cases a3 : 0 ≤ x.lf
        · have hw : whB x = true := by unfold whB; exact decide_eq_true ⟨a1, a2, a3⟩
          unfold asB at h3
          rw [hw] at h3
          exact .inr (.inr (.inr (.inl ⟨a1, a2, a3, by simpa using h3⟩)))
        · exact .inr (.inr (.inl ⟨a1, a2, by omega⟩))
      · exact .inr (.inl ⟨a1, by omega⟩)
    · exact .inl (by omega)
  · refine .inr (.inr ⟨h1, h2, .inr (.inr (.inr (.inr ?_)))⟩)
    unfold asB whB at h3
    simp only [Bool.and_eq_true, decide_eq_true_eq, Bool.not_eq_true'] at h3
    exact ⟨h3.1.1, h3.1.2.1, h3.1.2.2, h3.2, h4⟩
set_option maxHeartbeats 2000000 in
theorem rbegin_no (n : Int) (x : Bt) (c : Cg) (vo vn : Value) (w : World) (hok : begOK n x c = false) (ho : Is w vo c.o) (hn : Is w vn c.n) :
    Calls Try.prog 24 #[.int .i64 n, bV x, cgV c.k vo vn] w fun e w' => e = .returned (.tuple #[.pointer none, .int .i64 2]) ∧ Below w.heap.size w w' := by
  obtain ⟨q1, c1, e⟩ := ho.form
  subst e
  obtain ⟨q2, c2, e⟩ := hn.form
  subst e
  obtain ⟨n1, hn1⟩ : ∃ n, c.o.length = n := ⟨_, rfl⟩
  obtain ⟨n2, hn2⟩ : ∃ n, c.n.length = n := ⟨_, rfl⟩
  rw [hn1, hn2]
  have HC := rbeg_cases hok
  have HG : gdC c.k n1 n2 = gdG c := by unfold gdG; rw [hn1, hn2]
  clear hok ho hn
  obtain ⟨k, hk⟩ : ∃ k, c.k = k := ⟨_, rfl⟩
  rw [hk] at HG ⊢
  go_enter Try.func24, Try.ntmps24
  go_upto_region 1 with fail
  obtain ⟨A, hAe, hX, hY, hw⟩ := blk2 w (bC x) (cgC k (.slice q1 n1 c1) (.slice q2 n2 c2)) 23 26
  rw [hAe]
  clear hAe
  obtain ⟨x0, x1, x2⟩ := cells3 hX
  obtain ⟨y0, y1, y2⟩ := cellsG hY
  have hbv := Below.refl A.heap.size A
  have HE : ∀ w, _ := noEq x
  rcases HC with h | h | ⟨h1, h2, h | ⟨h3, h⟩ | ⟨h3, h4, h⟩ | ⟨h3, h4, h5, h⟩ | ⟨h3, h4, h5, h6, h⟩⟩
  · go_wp2_with fail
    go_ret2
    exact ⟨rfl, hw⟩
  · have i1 : ¬ n < 1 := by omega
    go_wp2_with fail
    go_ret2
    exact ⟨rfl, hw⟩
  · have i1 : ¬ n < 1 := by omega
    have i2 : ¬ 5 < n := by omega
    go_wp2_with fail
    go_ret2
    exact ⟨rfl, hw⟩
  · have i1 : ¬ n < 1 := by omega
    have i2 : ¬ 5 < n := by omega
    have i3 : ¬ x.n < 0 := by omega
    go_wp2_with fail
    go_ret2
    exact ⟨rfl, hw⟩
  · have i1 : ¬ n < 1 := by omega
    have i2 : ¬ 5 < n := by omega
    have i3 : ¬ x.n < 0 := by omega
    have i4 : ¬ x.nd < 0 := by omega
    go_wp2_with fail
    go_ret2
    exact ⟨rfl, hw⟩
  · have i1 : ¬ n < 1 := by omega
    have i2 : ¬ 5 < n := by omega
    have i3 : ¬ x.n < 0 := by omega
    have i4 : ¬ x.nd < 0 := by omega
    have i5 : ¬ x.lf < 0 := by omega
    rw [h] at HE
    go_wp2_with fail
    go_ret2
    exact ⟨rfl, hw⟩
  · have i1 : ¬ n < 1 := by omega
    have i2 : ¬ 5 < n := by omega
    have i3 : ¬ x.n < 0 := by omega
    have i4 : ¬ x.nd < 0 := by omega
    have i5 : ¬ x.lf < 0 := by omega
    rw [h6] at HE
    go_wp2_with fail
    refine (ggood_any k q1 n1 c1 q2 n2 c2 _).mono ?_
    rintro e W1 ⟨rfl, b1⟩
    rw [HG, h]
    go_wp2_with fail
    go_ret2
    exact ⟨rfl, ab_trans hw b1⟩
theorem beg_rf {W0 W : World} {B d g1 g2 g3 N : Nat} {x : Bt} {c : Cg} {vo vn : Value} (hB : Blk W d (rfC (begR N x c) vo vn (.slice none 0 0) g1 g2 g3) 92) (gb : B ≤ d) (ge1 : B ≤ g1) (ge2 : B ≤ g2) (ge3 : B ≤ g3) (hne : g1 ≠ g3) (O1 : Is W0 vo c.o) (O2 : Is W0 vn c.n) (M1 : Blk W g1 (bls (List.replicate N false)) 4) (M2 : Blk W g2 (flR (List.replicate N r0D)).toArray 61) (M3 : Blk W g3 (bls (List.replicate N false)) 4) (hok : begOK (N : Int) x c = true) (ho : Below W0.heap.size W0 W) (hl : W0.heap.size ≤ B) : Drn W0 W B d g1 g2 g3 (begR N x c) :=
  ⟨gb, ge1, ge2, ge3, hne, ⟨vo, vn, _, hB, O1, O2, Is.nil _⟩, by show Blk W g1 (bls (hasL (List.replicate N none))) _; rw [has_rep]; exact M1, ⟨_, M2, rgs_rep W0 N, slr_rep N⟩, M3, begOK_rd hok, ho, hl, Nat.le_refl _⟩
set_option maxHeartbeats 4000000 in
theorem rbegin_yes (W0 : World) (N : Nat) (x : Bt) (c : Cg) (vo vn : Value) (w : World) (hw0 : Below W0.heap.size W0 w) (hok : begOK (N : Int) x c = true) (ho : Is W0 vo c.o) (hn : Is W0 vn c.n) :
    Calls Try.prog 24 #[.int .i64 (N : Int), bV x, cgV c.k vo vn] w fun e w' => ∃ d g1 g2 g3, e = .returned (.tuple #[dptr d, .int .i64 0]) ∧ Drn W0 w' w.heap.size d g1 g2 g3 (begR N x c) ∧ Below w.heap.size w w' := by
  have hok2 := hok
  unfold begOK at hok2
  simp only [Bool.and_eq_true, decide_eq_true_eq] at hok2
  obtain ⟨N1, N5, hx, hg⟩ := hok2
  have N1' : 1 ≤ N := by omega
  have N5' : N ≤ 5 := by omega
  unfold asB whB at hx
  simp only [Bool.and_eq_true, decide_eq_true_eq, Bool.not_eq_true'] at hx
  obtain ⟨⟨a1, a2, a3⟩, a4⟩ := hx
  obtain ⟨q1, c1, e⟩ := ho.form
  subst e
  obtain ⟨q2, c2, e⟩ := hn.form
  subst e
  obtain ⟨n1, hn1⟩ : ∃ n, c.o.length = n := ⟨_, rfl⟩
  obtain ⟨n2, hn2⟩ : ∃ n, c.n.length = n := ⟨_, rfl⟩
  rw [hn1] at ho ⊢
  rw [hn2] at hn ⊢
  have HG : gdC c.k n1 n2 = true := by unfold gdG at hg; rw [hn1, hn2] at hg; exact hg
  obtain ⟨k, hk⟩ : ∃ k, c.k = k := ⟨_, rfl⟩
  rw [hk] at HG ⊢
  have i1 : ¬ ((N : Int) < 1) := by omega
  have i2 : ¬ (5 < (N : Int)) := by omega
  have i3 : ¬ (5 < N) := by omega
  have i4 : ¬ (N < 1) := by omega
  have i5 : ¬ x.n < 0 := by omega
  have i6 : ¬ x.nd < 0 := by omega
  have i7 : ¬ x.lf < 0 := by omega
  have HE : ∀ w, _ := noEq x
  rw [a4] at HE
  go_enter Try.func24, Try.ntmps24
  go_upto_region 1 with fail
  obtain ⟨A, hAe, hX, hY, hw⟩ := blk2 w (bC x) (cgC k (.slice q1 n1 c1) (.slice q2 n2 c2)) 23 26
  rw [hAe]
  clear hAe
  obtain ⟨x0, x1, x2⟩ := cells3 hX
  obtain ⟨y0, y1, y2⟩ := cellsG hY
  have hbv := Below.refl A.heap.size A
  go_wp2_with fail
  refine (ggood_any k q1 n1 c1 q2 n2 c2 _).mono ?_
  rintro e W2 ⟨rfl, b2⟩
  rw [HG]
  have hbv := b2
  go_upto_region 3 with fail
  subst hk
  have hX2 := hX.keep hbv
  have hY2 := hY.keep hbv
  have hw2 := ab_trans hw hbv
  have zw := hw2.size
  clear hX hY x0 x1 x2 y0 y1 y2 HG i1 i2 i3 i4 i5 i6 i7 HE
  have D : ∀ W, Below W2.heap.size W2 W → Blk W w.heap.size (bC x) 23 ∧ Blk W (w.heap.size + 1) (cgC c.k (.slice q1 n1 c1) (.slice q2 n2 c2)) 26 := fun W hb => ⟨hX2.keep hb, hY2.keep hb⟩
  refine wp_region_held_drew (S := fun w' => Below W2.heap.size W2 w') (by kernel_rfl) (ab_drew (Below.refl _ _)) (fun hHeld => ?_)
  refine takeH (i := 0) (some 39) rfl rfl (by kernel_rfl) (by kernel_rfl) (by kernel_rfl) (fun _ _ _ h => h) (by rfl) (fun w hSw => by (try dsimp only at hSw); go_simp; try rfl) hHeld ?_
  go_frame
  refine takeH (i := 1) (some 40) rfl rfl (by kernel_rfl) (by kernel_rfl) (by kernel_rfl) (fun _ _ _ h => h) (by rfl) (fun w hSw => by (try dsimp only at hSw); have hh := (D _ hSw).1; have y0 := hh.at (i := 0) rfl; have y1 := hh.at (i := 1) rfl; have y2 := hh.at (i := 2) rfl; go_simp; try rfl) hHeld ?_
  go_frame
  refine takeH (i := 2) (some 41) rfl rfl (by kernel_rfl) (by kernel_rfl) (by kernel_rfl) (fun _ _ _ h => h) (by rfl) (fun w hSw => by (try dsimp only at hSw); have hh := (D _ hSw).2; have y0 := hh.at (i := 0) rfl; have y1 := hh.at (i := 1) rfl; have y2 := hh.at (i := 2) rfl; go_simp; try rfl) hHeld ?_
  go_frame
  refine takeH (i := 3) (some 42) rfl rfl (by kernel_rfl) (by kernel_rfl) (by kernel_rfl) (fun _ _ _ h => h) (by rfl) (fun w hSw => by (try dsimp only at hSw); go_simp; try rfl) hHeld ?_
  go_frame
  refine takeH (i := 5) (some 44) rfl rfl (by kernel_rfl) (by kernel_rfl) (by kernel_rfl) (fun _ _ _ h => h) (by rfl) (fun w hSw => by (try dsimp only at hSw); go_simp; try rfl) hHeld ?_
  go_frame
  refine takeH (i := 7) (some 46) rfl rfl (by kernel_rfl) (by kernel_rfl) (by kernel_rfl) (fun _ _ _ h => h) (by rfl) (fun w hSw => by (try dsimp only at hSw); go_simp; try rfl) hHeld ?_
  go_frame
  have z0 : W2.heap.size = W2.drew.heap.size := rfl
  have hb0 : Below W2.heap.size W2 W2.drew := hHeld
  clear hHeld
  generalize W2.drew = V0 at *
  refine wpAnyH_ready (rs := [4, 6, 8]) (by kernel_rfl) (by simp) (AllReadyH.cons rfl (fun K hK => ?_) (AllReadyH.cons rfl (fun K hK => ?_) (AllReadyH.cons rfl (fun K hK => ?_) AllReadyH.nil)))
  · rw [if_pos (by rfl)]
    refine mkSW (some 43) rfl rfl rfl rfl (mk_bl N1' N5' _) ?_
    obtain ⟨V1, eW, M1, b11⟩ := blk1 V0 (bls (List.replicate N false)) 4
    rw [eW]
    clear eW
    have lg1 := hb0.size
    have kg1 := M1.lt
    generalize hg1 : V0.heap.size = g1 at M1 lg1 kg1 ⊢
    have hb1 := ab_trans hb0 b11
    refine hK.out _ _ hb1 (fun hHeld => ?_)
    clear hK K hHeld
    refine wpAnyH_ready (rs := [6, 8]) (by kernel_rfl) (by simp) (AllReadyH.cons rfl (fun K hK => ?_) (AllReadyH.cons rfl (fun K hK => ?_) AllReadyH.nil))
    · rw [if_pos (by rfl)]
      refine mkSW (some 45) rfl rfl rfl rfl (mk_rg N1' N5' _) ?_
      obtain ⟨V2, eW, M2, b12⟩ := blk1 V1 (flR (List.replicate N r0D)).toArray 61
      rw [eW]
      clear eW
      have lg2 := hb1.size
      have kg2 := M2.lt
      generalize hg2 : V1.heap.size = g2 at M2 lg2 kg2 ⊢
      have M1 := M1.keep b12
      have kg1 := M1.lt
      have hb2 := ab_trans hb1 b12
      refine hK.out _ _ hb2 (fun hHeld => ?_)
      clear hK K hHeld
      refine wpAnyH_ready (rs := [8]) (by kernel_rfl) (by simp) (AllReadyH.cons rfl (fun K hK => ?_) AllReadyH.nil)
      · rw [if_pos (by rfl)]
        refine mkSW (some 47) rfl rfl rfl rfl (mk_bl N1' N5' _) ?_
        obtain ⟨V3, eW, M3, b13⟩ := blk1 V2 (bls (List.replicate N false)) 4
        rw [eW]
        clear eW
        have lg3 := hb2.size
        have kg3 := M3.lt
        generalize hg3 : V2.heap.size = g3 at M3 lg3 kg3 ⊢
        have M1 := M1.keep b13
        have kg1 := M1.lt
        have M2 := M2.keep b13
        have kg2 := M2.lt
        have hb3 := ab_trans hb2 b13
        refine hK.out _ _ hb3 (fun hHeld => ?_)
        clear hK K hHeld
        have hHeld := hb3
        refine takeH (i := 9) (some 48) rfl rfl (by kernel_rfl) (by kernel_rfl) (by kernel_rfl) (fun _ _ _ h => h) (by rfl) (fun w hSw => by (try dsimp only at hSw); go_simp; try rfl) hHeld ?_
        go_frame
        refine wpAnyH_ready (rs := [10]) (by kernel_rfl) (by simp) (AllReadyH.cons rfl (fun K hK => ?_) AllReadyH.nil)
        go_simp
        have hBf := Blk.new V3 (rfC (begR N x c) (.slice q1 n1 c1) (.slice q2 n2 c2) (.slice none 0 0) g1 g2 g3) 92
        have bf : Below V3.heap.size V3 (V3.alloc (.cells (rfC (begR N x c) (.slice q1 n1 c1) (.slice q2 n2 c2) (.slice none 0 0) g1 g2 g3) 92)) := (Below.refl _ _).alloc (Nat.le_refl _) _
        have zf := hb3.size
        have hRf := beg_rf hBf (by omega : w.heap.size ≤ _) (by omega) (by omega) (by omega) (by omega) ho hn (M1.keep bf) (M2.keep bf) (M3.keep bf) hok (ab_trans hw0 (ab_trans hw2 (ab_trans hb3 bf))) hw0.size
        refine hK.out _ _ (ab_trans hb3 bf) (fun hHeld => ?_)
        clear hK K
        refine takeH (i := 11) (some 6) rfl rfl (by kernel_rfl) (by kernel_rfl) (by kernel_rfl) (fun _ _ _ h => h) (by rfl) (fun w hSw => by (try dsimp only at hSw); go_simp; try rfl) hHeld ?_
        go_frame
        refine takeH (i := 12) (some 7) rfl rfl (by kernel_rfl) (by kernel_rfl) (by kernel_rfl) (fun _ _ _ h => h) (by rfl) (fun w hSw => by (try dsimp only at hSw); go_simp; try rfl) hHeld ?_
        go_frame
        refine wpAnyH_done (by kernel_rfl) ?_ _
        go_wp2_with fail
        go_ret2
        exact ⟨_, g1, g2, g3, rfl, hRf, ab_trans hw2 hHeld⟩
    · rw [if_pos (by rfl)]
      refine mkSW (some 47) rfl rfl rfl rfl (mk_bl N1' N5' _) ?_
      obtain ⟨V2, eW, M3, b12⟩ := blk1 V1 (bls (List.replicate N false)) 4
      rw [eW]
      clear eW
      have lg3 := hb1.size
      have kg3 := M3.lt
      generalize hg3 : V1.heap.size = g3 at M3 lg3 kg3 ⊢
      have M1 := M1.keep b12
      have kg1 := M1.lt
      have hb2 := ab_trans hb1 b12
      refine hK.out _ _ hb2 (fun hHeld => ?_)
      clear hK K hHeld
      refine wpAnyH_ready (rs := [6]) (by kernel_rfl) (by simp) (AllReadyH.cons rfl (fun K hK => ?_) AllReadyH.nil)
      · rw [if_pos (by rfl)]
        refine mkSW (some 45) rfl rfl rfl rfl (mk_rg N1' N5' _) ?_
        obtain ⟨V3, eW, M2, b13⟩ := blk1 V2 (flR (List.replicate N r0D)).toArray 61
        rw [eW]
        clear eW
        have lg2 := hb2.size
        have kg2 := M2.lt
        generalize hg2 : V2.heap.size = g2 at M2 lg2 kg2 ⊢
        have M1 := M1.keep b13
        have kg1 := M1.lt
        have M3 := M3.keep b13
        have kg3 := M3.lt
        have hb3 := ab_trans hb2 b13
        refine hK.out _ _ hb3 (fun hHeld => ?_)
        clear hK K hHeld
        have hHeld := hb3
        refine takeH (i := 9) (some 48) rfl rfl (by kernel_rfl) (by kernel_rfl) (by kernel_rfl) (fun _ _ _ h => h) (by rfl) (fun w hSw => by (try dsimp only at hSw); go_simp; try rfl) hHeld ?_
        go_frame
        refine wpAnyH_ready (rs := [10]) (by kernel_rfl) (by simp) (AllReadyH.cons rfl (fun K hK => ?_) AllReadyH.nil)
        go_simp
        have hBf := Blk.new V3 (rfC (begR N x c) (.slice q1 n1 c1) (.slice q2 n2 c2) (.slice none 0 0) g1 g2 g3) 92
        have bf : Below V3.heap.size V3 (V3.alloc (.cells (rfC (begR N x c) (.slice q1 n1 c1) (.slice q2 n2 c2) (.slice none 0 0) g1 g2 g3) 92)) := (Below.refl _ _).alloc (Nat.le_refl _) _
        have zf := hb3.size
        have hRf := beg_rf hBf (by omega : w.heap.size ≤ _) (by omega) (by omega) (by omega) (by omega) ho hn (M1.keep bf) (M2.keep bf) (M3.keep bf) hok (ab_trans hw0 (ab_trans hw2 (ab_trans hb3 bf))) hw0.size
        refine hK.out _ _ (ab_trans hb3 bf) (fun hHeld => ?_)
        clear hK K
        refine takeH (i := 11) (some 6) rfl rfl (by kernel_rfl) (by kernel_rfl) (by kernel_rfl) (fun _ _ _ h => h) (by rfl) (fun w hSw => by (try dsimp only at hSw); go_simp; try rfl) hHeld ?_
        go_frame
        refine takeH (i := 12) (some 7) rfl rfl (by kernel_rfl) (by kernel_rfl) (by kernel_rfl) (fun _ _ _ h => h) (by rfl) (fun w hSw => by (try dsimp only at hSw); go_simp; try rfl) hHeld ?_
        go_frame
        refine wpAnyH_done (by kernel_rfl) ?_ _
        go_wp2_with fail
        go_ret2
        exact ⟨_, g1, g2, g3, rfl, hRf, ab_trans hw2 hHeld⟩
  · rw [if_pos (by rfl)]
    refine mkSW (some 45) rfl rfl rfl rfl (mk_rg N1' N5' _) ?_
    obtain ⟨V1, eW, M2, b11⟩ := blk1 V0 (flR (List.replicate N r0D)).toArray 61
    rw [eW]
    clear eW
    have lg2 := hb0.size
    have kg2 := M2.lt
    generalize hg2 : V0.heap.size = g2 at M2 lg2 kg2 ⊢
    have hb1 := ab_trans hb0 b11
    refine hK.out _ _ hb1 (fun hHeld => ?_)
    clear hK K hHeld
    refine wpAnyH_ready (rs := [4, 8]) (by kernel_rfl) (by simp) (AllReadyH.cons rfl (fun K hK => ?_) (AllReadyH.cons rfl (fun K hK => ?_) AllReadyH.nil))
    · rw [if_pos (by rfl)]
      refine mkSW (some 43) rfl rfl rfl rfl (mk_bl N1' N5' _) ?_
      obtain ⟨V2, eW, M1, b12⟩ := blk1 V1 (bls (List.replicate N false)) 4
      rw [eW]
      clear eW
      have lg1 := hb1.size
      have kg1 := M1.lt
      generalize hg1 : V1.heap.size = g1 at M1 lg1 kg1 ⊢
      have M2 := M2.keep b12
      have kg2 := M2.lt
      have hb2 := ab_trans hb1 b12
      refine hK.out _ _ hb2 (fun hHeld => ?_)
      clear hK K hHeld
      refine wpAnyH_ready (rs := [8]) (by kernel_rfl) (by simp) (AllReadyH.cons rfl (fun K hK => ?_) AllReadyH.nil)
      · rw [if_pos (by rfl)]
        refine mkSW (some 47) rfl rfl rfl rfl (mk_bl N1' N5' _) ?_
        obtain ⟨V3, eW, M3, b13⟩ := blk1 V2 (bls (List.replicate N false)) 4
        rw [eW]
        clear eW
        have lg3 := hb2.size
        have kg3 := M3.lt
        generalize hg3 : V2.heap.size = g3 at M3 lg3 kg3 ⊢
        have M2 := M2.keep b13
        have kg2 := M2.lt
        have M1 := M1.keep b13
        have kg1 := M1.lt
        have hb3 := ab_trans hb2 b13
        refine hK.out _ _ hb3 (fun hHeld => ?_)
        clear hK K hHeld
        have hHeld := hb3
        refine takeH (i := 9) (some 48) rfl rfl (by kernel_rfl) (by kernel_rfl) (by kernel_rfl) (fun _ _ _ h => h) (by rfl) (fun w hSw => by (try dsimp only at hSw); go_simp; try rfl) hHeld ?_
        go_frame
        refine wpAnyH_ready (rs := [10]) (by kernel_rfl) (by simp) (AllReadyH.cons rfl (fun K hK => ?_) AllReadyH.nil)
        go_simp
        have hBf := Blk.new V3 (rfC (begR N x c) (.slice q1 n1 c1) (.slice q2 n2 c2) (.slice none 0 0) g1 g2 g3) 92
        have bf : Below V3.heap.size V3 (V3.alloc (.cells (rfC (begR N x c) (.slice q1 n1 c1) (.slice q2 n2 c2) (.slice none 0 0) g1 g2 g3) 92)) := (Below.refl _ _).alloc (Nat.le_refl _) _
        have zf := hb3.size
        have hRf := beg_rf hBf (by omega : w.heap.size ≤ _) (by omega) (by omega) (by omega) (by omega) ho hn (M1.keep bf) (M2.keep bf) (M3.keep bf) hok (ab_trans hw0 (ab_trans hw2 (ab_trans hb3 bf))) hw0.size
        refine hK.out _ _ (ab_trans hb3 bf) (fun hHeld => ?_)
        clear hK K
        refine takeH (i := 11) (some 6) rfl rfl (by kernel_rfl) (by kernel_rfl) (by kernel_rfl) (fun _ _ _ h => h) (by rfl) (fun w hSw => by (try dsimp only at hSw); go_simp; try rfl) hHeld ?_
        go_frame
        refine takeH (i := 12) (some 7) rfl rfl (by kernel_rfl) (by kernel_rfl) (by kernel_rfl) (fun _ _ _ h => h) (by rfl) (fun w hSw => by (try dsimp only at hSw); go_simp; try rfl) hHeld ?_
        go_frame
        refine wpAnyH_done (by kernel_rfl) ?_ _
        go_wp2_with fail
        go_ret2
        exact ⟨_, g1, g2, g3, rfl, hRf, ab_trans hw2 hHeld⟩
    · rw [if_pos (by rfl)]
      refine mkSW (some 47) rfl rfl rfl rfl (mk_bl N1' N5' _) ?_
      obtain ⟨V2, eW, M3, b12⟩ := blk1 V1 (bls (List.replicate N false)) 4
      rw [eW]
      clear eW
      have lg3 := hb1.size
      have kg3 := M3.lt
      generalize hg3 : V1.heap.size = g3 at M3 lg3 kg3 ⊢
      have M2 := M2.keep b12
      have kg2 := M2.lt
      have hb2 := ab_trans hb1 b12
      refine hK.out _ _ hb2 (fun hHeld => ?_)
      clear hK K hHeld
      refine wpAnyH_ready (rs := [4]) (by kernel_rfl) (by simp) (AllReadyH.cons rfl (fun K hK => ?_) AllReadyH.nil)
      · rw [if_pos (by rfl)]
        refine mkSW (some 43) rfl rfl rfl rfl (mk_bl N1' N5' _) ?_
        obtain ⟨V3, eW, M1, b13⟩ := blk1 V2 (bls (List.replicate N false)) 4
        rw [eW]
        clear eW
        have lg1 := hb2.size
        have kg1 := M1.lt
        generalize hg1 : V2.heap.size = g1 at M1 lg1 kg1 ⊢
        have M2 := M2.keep b13
        have kg2 := M2.lt
        have M3 := M3.keep b13
        have kg3 := M3.lt
        have hb3 := ab_trans hb2 b13
        refine hK.out _ _ hb3 (fun hHeld => ?_)
        clear hK K hHeld
        have hHeld := hb3
        refine takeH (i := 9) (some 48) rfl rfl (by kernel_rfl) (by kernel_rfl) (by kernel_rfl) (fun _ _ _ h => h) (by rfl) (fun w hSw => by (try dsimp only at hSw); go_simp; try rfl) hHeld ?_
        go_frame
        refine wpAnyH_ready (rs := [10]) (by kernel_rfl) (by simp) (AllReadyH.cons rfl (fun K hK => ?_) AllReadyH.nil)
        go_simp
        have hBf := Blk.new V3 (rfC (begR N x c) (.slice q1 n1 c1) (.slice q2 n2 c2) (.slice none 0 0) g1 g2 g3) 92
        have bf : Below V3.heap.size V3 (V3.alloc (.cells (rfC (begR N x c) (.slice q1 n1 c1) (.slice q2 n2 c2) (.slice none 0 0) g1 g2 g3) 92)) := (Below.refl _ _).alloc (Nat.le_refl _) _
        have zf := hb3.size
        have hRf := beg_rf hBf (by omega : w.heap.size ≤ _) (by omega) (by omega) (by omega) (by omega) ho hn (M1.keep bf) (M2.keep bf) (M3.keep bf) hok (ab_trans hw0 (ab_trans hw2 (ab_trans hb3 bf))) hw0.size
        refine hK.out _ _ (ab_trans hb3 bf) (fun hHeld => ?_)
        clear hK K
        refine takeH (i := 11) (some 6) rfl rfl (by kernel_rfl) (by kernel_rfl) (by kernel_rfl) (fun _ _ _ h => h) (by rfl) (fun w hSw => by (try dsimp only at hSw); go_simp; try rfl) hHeld ?_
        go_frame
        refine takeH (i := 12) (some 7) rfl rfl (by kernel_rfl) (by kernel_rfl) (by kernel_rfl) (fun _ _ _ h => h) (by rfl) (fun w hSw => by (try dsimp only at hSw); go_simp; try rfl) hHeld ?_
        go_frame
        refine wpAnyH_done (by kernel_rfl) ?_ _
        go_wp2_with fail
        go_ret2
        exact ⟨_, g1, g2, g3, rfl, hRf, ab_trans hw2 hHeld⟩
  · rw [if_pos (by rfl)]
    refine mkSW (some 47) rfl rfl rfl rfl (mk_bl N1' N5' _) ?_
    obtain ⟨V1, eW, M3, b11⟩ := blk1 V0 (bls (List.replicate N false)) 4
    rw [eW]
    clear eW
    have lg3 := hb0.size
    have kg3 := M3.lt
    generalize hg3 : V0.heap.size = g3 at M3 lg3 kg3 ⊢
    have hb1 := ab_trans hb0 b11
    refine hK.out _ _ hb1 (fun hHeld => ?_)
    clear hK K hHeld
    refine wpAnyH_ready (rs := [4, 6]) (by kernel_rfl) (by simp) (AllReadyH.cons rfl (fun K hK => ?_) (AllReadyH.cons rfl (fun K hK => ?_) AllReadyH.nil))
    · rw [if_pos (by rfl)]
      refine mkSW (some 43) rfl rfl rfl rfl (mk_bl N1' N5' _) ?_
      obtain ⟨V2, eW, M1, b12⟩ := blk1 V1 (bls (List.replicate N false)) 4
      rw [eW]
      clear eW
      have lg1 := hb1.size
      have kg1 := M1.lt
      generalize hg1 : V1.heap.size = g1 at M1 lg1 kg1 ⊢
      have M3 := M3.keep b12
      have kg3 := M3.lt
      have hb2 := ab_trans hb1 b12
      refine hK.out _ _ hb2 (fun hHeld => ?_)
      clear hK K hHeld
      refine wpAnyH_ready (rs := [6]) (by kernel_rfl) (by simp) (AllReadyH.cons rfl (fun K hK => ?_) AllReadyH.nil)
      · rw [if_pos (by rfl)]
        refine mkSW (some 45) rfl rfl rfl rfl (mk_rg N1' N5' _) ?_
        obtain ⟨V3, eW, M2, b13⟩ := blk1 V2 (flR (List.replicate N r0D)).toArray 61
        rw [eW]
        clear eW
        have lg2 := hb2.size
        have kg2 := M2.lt
        generalize hg2 : V2.heap.size = g2 at M2 lg2 kg2 ⊢
        have M3 := M3.keep b13
        have kg3 := M3.lt
        have M1 := M1.keep b13
        have kg1 := M1.lt
        have hb3 := ab_trans hb2 b13
        refine hK.out _ _ hb3 (fun hHeld => ?_)
        clear hK K hHeld
        have hHeld := hb3
        refine takeH (i := 9) (some 48) rfl rfl (by kernel_rfl) (by kernel_rfl) (by kernel_rfl) (fun _ _ _ h => h) (by rfl) (fun w hSw => by (try dsimp only at hSw); go_simp; try rfl) hHeld ?_
        go_frame
        refine wpAnyH_ready (rs := [10]) (by kernel_rfl) (by simp) (AllReadyH.cons rfl (fun K hK => ?_) AllReadyH.nil)
        go_simp
        have hBf := Blk.new V3 (rfC (begR N x c) (.slice q1 n1 c1) (.slice q2 n2 c2) (.slice none 0 0) g1 g2 g3) 92
        have bf : Below V3.heap.size V3 (V3.alloc (.cells (rfC (begR N x c) (.slice q1 n1 c1) (.slice q2 n2 c2) (.slice none 0 0) g1 g2 g3) 92)) := (Below.refl _ _).alloc (Nat.le_refl _) _
        have zf := hb3.size
        have hRf := beg_rf hBf (by omega : w.heap.size ≤ _) (by omega) (by omega) (by omega) (by omega) ho hn (M1.keep bf) (M2.keep bf) (M3.keep bf) hok (ab_trans hw0 (ab_trans hw2 (ab_trans hb3 bf))) hw0.size
        refine hK.out _ _ (ab_trans hb3 bf) (fun hHeld => ?_)
        clear hK K
        refine takeH (i := 11) (some 6) rfl rfl (by kernel_rfl) (by kernel_rfl) (by kernel_rfl) (fun _ _ _ h => h) (by rfl) (fun w hSw => by (try dsimp only at hSw); go_simp; try rfl) hHeld ?_
        go_frame
        refine takeH (i := 12) (some 7) rfl rfl (by kernel_rfl) (by kernel_rfl) (by kernel_rfl) (fun _ _ _ h => h) (by rfl) (fun w hSw => by (try dsimp only at hSw); go_simp; try rfl) hHeld ?_
        go_frame
        refine wpAnyH_done (by kernel_rfl) ?_ _
        go_wp2_with fail
        go_ret2
        exact ⟨_, g1, g2, g3, rfl, hRf, ab_trans hw2 hHeld⟩
    · rw [if_pos (by rfl)]
      refine mkSW (some 45) rfl rfl rfl rfl (mk_rg N1' N5' _) ?_
      obtain ⟨V2, eW, M2, b12⟩ := blk1 V1 (flR (List.replicate N r0D)).toArray 61
      rw [eW]
      clear eW
      have lg2 := hb1.size
      have kg2 := M2.lt
      generalize hg2 : V1.heap.size = g2 at M2 lg2 kg2 ⊢
      have M3 := M3.keep b12
      have kg3 := M3.lt
      have hb2 := ab_trans hb1 b12
      refine hK.out _ _ hb2 (fun hHeld => ?_)
      clear hK K hHeld
      refine wpAnyH_ready (rs := [4]) (by kernel_rfl) (by simp) (AllReadyH.cons rfl (fun K hK => ?_) AllReadyH.nil)
      · rw [if_pos (by rfl)]
        refine mkSW (some 43) rfl rfl rfl rfl (mk_bl N1' N5' _) ?_
        obtain ⟨V3, eW, M1, b13⟩ := blk1 V2 (bls (List.replicate N false)) 4
        rw [eW]
        clear eW
        have lg1 := hb2.size
        have kg1 := M1.lt
        generalize hg1 : V2.heap.size = g1 at M1 lg1 kg1 ⊢
        have M3 := M3.keep b13
        have kg3 := M3.lt
        have M2 := M2.keep b13
        have kg2 := M2.lt
        have hb3 := ab_trans hb2 b13
        refine hK.out _ _ hb3 (fun hHeld => ?_)
        clear hK K hHeld
        have hHeld := hb3
        refine takeH (i := 9) (some 48) rfl rfl (by kernel_rfl) (by kernel_rfl) (by kernel_rfl) (fun _ _ _ h => h) (by rfl) (fun w hSw => by (try dsimp only at hSw); go_simp; try rfl) hHeld ?_
        go_frame
        refine wpAnyH_ready (rs := [10]) (by kernel_rfl) (by simp) (AllReadyH.cons rfl (fun K hK => ?_) AllReadyH.nil)
        go_simp
        have hBf := Blk.new V3 (rfC (begR N x c) (.slice q1 n1 c1) (.slice q2 n2 c2) (.slice none 0 0) g1 g2 g3) 92
        have bf : Below V3.heap.size V3 (V3.alloc (.cells (rfC (begR N x c) (.slice q1 n1 c1) (.slice q2 n2 c2) (.slice none 0 0) g1 g2 g3) 92)) := (Below.refl _ _).alloc (Nat.le_refl _) _
        have zf := hb3.size
        have hRf := beg_rf hBf (by omega : w.heap.size ≤ _) (by omega) (by omega) (by omega) (by omega) ho hn (M1.keep bf) (M2.keep bf) (M3.keep bf) hok (ab_trans hw0 (ab_trans hw2 (ab_trans hb3 bf))) hw0.size
        refine hK.out _ _ (ab_trans hb3 bf) (fun hHeld => ?_)
        clear hK K
        refine takeH (i := 11) (some 6) rfl rfl (by kernel_rfl) (by kernel_rfl) (by kernel_rfl) (fun _ _ _ h => h) (by rfl) (fun w hSw => by (try dsimp only at hSw); go_simp; try rfl) hHeld ?_
        go_frame
        refine takeH (i := 12) (some 7) rfl rfl (by kernel_rfl) (by kernel_rfl) (by kernel_rfl) (fun _ _ _ h => h) (by rfl) (fun w hSw => by (try dsimp only at hSw); go_simp; try rfl) hHeld ?_
        go_frame
        refine wpAnyH_done (by kernel_rfl) ?_ _
        go_wp2_with fail
        go_ret2
        exact ⟨_, g1, g2, g3, rfl, hRf, ab_trans hw2 hHeld⟩
end Go.Proofs.Ytodmhohccclhmaa
