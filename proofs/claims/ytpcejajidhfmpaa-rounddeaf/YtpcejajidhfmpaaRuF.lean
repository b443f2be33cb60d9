/-
  Begin, where it is refused; alive.
-/
import Derived.Test.YtpcejajidhfmpaaRuE
namespace Go.Proofs.Ytpcejajidhfmpaa
open Go.RowKit
set_option linter.unusedVariables false
set_option maxRecDepth 100000

theorem beg_cases {n : Int} {x : Bt} {c : Cg} (h : begOK n x c = false) : n < 1 ∨ 5 < n ∨ (1 ≤ n ∧ n ≤ 5 ∧ asB x = false) ∨ (1 ≤ n ∧ n ≤ 5 ∧ asB x = true ∧ gdG c = false) := by
  unfold begOK at h
  by_cases h1 : 1 ≤ n
  · by_cases h2 : n ≤ 5
    · rw [decide_eq_true h1, decide_eq_true h2] at h
      cases h3 : asB x
      · exact .inr (.inr (.inl ⟨h1, h2, rfl⟩))
      · rw [h3] at h
        exact .inr (.inr (.inr ⟨h1, h2, rfl, by simpa using h⟩))
    · exact .inr (.inl (by omega))
  · exact .inl (by omega)
set_option maxHeartbeats 2000000 in
theorem begin_no (n : Int) (x : Bt) (c : Cg) (vo vn : Value) (w : World) (hok : begOK n x c = false) (ho : Is w vo c.o) (hn : Is w vn c.n) :
    Calls Try.prog 23 #[.int .i64 n, bV x, cgV c.k vo vn] w fun e w' => e = .returned (.tuple #[.pointer none, Err 2]) ∧ Below w.heap.size w w' := by
  obtain ⟨q1, c1, e⟩ := ho.form
  subst e
  obtain ⟨q2, c2, e⟩ := hn.form
  subst e
  obtain ⟨n1, hn1⟩ : ∃ n, c.o.length = n := ⟨_, rfl⟩
  obtain ⟨n2, hn2⟩ : ∃ n, c.n.length = n := ⟨_, rfl⟩
  rw [hn1, hn2]
  have HC := beg_cases hok
  have HG : gdC c.k n1 n2 = gdG c := by unfold gdG; rw [hn1, hn2]
  clear hok ho hn
  obtain ⟨k, hk⟩ : ∃ k, c.k = k := ⟨_, rfl⟩
  rw [hk] at HG ⊢
  go_enter Try.func23, Try.ntmps23
  go_upto_region 1 with fail
  obtain ⟨A, hAe, hX, hY, hw⟩ := blk2 w (bC x) (cgC k (.slice q1 n1 c1) (.slice q2 n2 c2)) 23 26
  rw [hAe]
  clear hAe
  obtain ⟨x0, x1, x2⟩ := cells3 hX
  obtain ⟨y0, y1, y2⟩ := cellsG hY
  have hbv := Below.refl A.heap.size A
  rcases HC with h | h | ⟨h1, h2, h⟩ | ⟨h1, h2, h, h3⟩
  · go_wp2_with fail
    go_ret2
    exact ⟨rfl, hw⟩
  · have i1 : ¬ n < 1 := by omega
    go_wp2_with fail
    go_ret2
    exact ⟨rfl, hw⟩
  · have i1 : ¬ n < 1 := by omega
    have i2 : ¬ 5 < n := by omega
    have HP : prN zR x = 2 := by rw [pr_zero, h]; rfl
    have E1 := gne20
    go_wp2_with fail
    refine (prepare_no zR x (.slice none 0 0) _ 2 (Is.nil _) HP (by decide)).mono ?_
    rintro e W1 ⟨q, cc, rfl, hO, b1⟩
    rw [show ((2 : Nat) : Int) = 2 from rfl]
    go_upto_region 4 with fail
    generalize hE1 : W1.alloc _ = V1
    have v1 : Below W1.heap.size W1 V1 := by rw [← hE1]; exact (Below.refl _ _).alloc (Nat.le_refl _) _
    clear hE1
    have hbv := ab_trans b1 v1
    go_wp2_with fail
    go_ret2
    exact ⟨rfl, ab_trans hw hbv⟩
  · have i1 : ¬ n < 1 := by omega
    have i2 : ¬ 5 < n := by omega
    have HP : prN zR x = 0 := by rw [pr_zero, h]; rfl
    have E1 := gne20
    have E2 := neq00
    go_wp2_with fail
    refine (prepare_ok zR x (.slice none 0 0) _ (Is.nil _) HP).mono ?_
    rintro e W1 ⟨q, cc, rfl, hO, b1⟩
    go_upto_region 4 with fail
    generalize hE1 : W1.alloc _ = V1
    have v1 : Below W1.heap.size W1 V1 := by rw [← hE1]; exact (Below.refl _ _).alloc (Nat.le_refl _) _
    clear hE1
    have hbv := ab_trans b1 v1
    go_wp2_with fail
    refine (gcheck_any k q1 n1 c1 q2 n2 c2 _).mono ?_
    rintro e W2 ⟨rfl, b2⟩
    rw [show ckN k n1 n2 = 2 from ckN_no (by rw [HG, h3]), errV_no (by decide), show ((2 : Nat) : Int) = 2 from rfl]
    have hbv := ab_trans hbv b2
    go_wp2_with fail
    go_ret2
    exact ⟨rfl, ab_trans hw hbv⟩
theorem rn_stage {W : World} {B b mp ma s : Nat} {R : Rd} (h : Rn W B b mp ma R) (hs : R.st = s) : W.cell? ⟨b, 7, none⟩ = some (.int .i64 (s : Int)) := by
  have := (hear_cells h).2.2.2.2.1 W (Below.refl _ _)
  rw [hs] at this
  exact this
theorem rn_val {W : World} {B b mp ma : Nat} {R : Rd} (h : Rn W B b mp ma R) : ∃ vv, W.cell? ⟨b, 10, none⟩ = some vv ∧ W.cell? ⟨b, 11, none⟩ = some (errV R.e) ∧ Io W B vv R.v := by
  obtain ⟨vo, vn, vv, hB, -, -, i3⟩ := h.mem
  exact ⟨vv, hB.at (i := 10) rfl, hB.at (i := 11) rfl, i3⟩
abbrev xB : Bt := ⟨1, 0, 0⟩
abbrev xC : Cg := ⟨2, [], [5]⟩
def x0R : Rd := begR 3 xB xC
def x1R : Rd := pmS x0R 0 xB zB []
def x2R : Rd := pmS x1R 2 xB zB []
def x3R : Rd := acS x2R 1 xB
def x4R : Rd := acS x3R 0 xB
theorem x_ok : begOK 3 xB xC = true := by decide +kernel
theorem x_0 : pmB x0R 0 xB = false ∧ x0R.st = 1 := by decide +kernel
theorem x_1 : pmB x1R 2 xB = true := by decide +kernel
theorem x_2 : acB x2R 1 xB = false ∧ x2R.st = 2 := by decide +kernel
theorem x_3 : acB x3R 0 xB = true := by decide +kernel
theorem x_4 : x4R.st = 3 ∧ x4R.v = [5] ∧ x4R.e = 0 := by decide +kernel
set_option maxHeartbeats 4000000 in
theorem alive11_any (w : World) : Calls Try.prog 9 #[] w fun e w' => e = .returned (.bool true) ∧ Below w.heap.size w w' := by
  go_enter Try.func9, Try.ntmps9
  go_upto_region 2 with fail
  obtain ⟨A, hAe, hX, hw⟩ := blk1 w (bC xB) 23
  rw [show w.alloc (.cells _ 23) = A from hAe]
  clear hAe
  obtain ⟨x0, x1, x2⟩ := cells3 hX
  have hbv := Below.refl A.heap.size A
  go_wp2_with (refine bs_own rfl rfl [5] (by simp only [List.map_toArray, List.map_cons, List.map_nil]; rfl) (isl1 _ _) rfl (by decide) ?_; intro W1 hN1 b1 z1; clear z1; go_frame)
  refine (begin_yes 3 xB xC _ _ _ x_ok (Is.nil _) (own_is hN1)).mono ?_
  rintro e W2 ⟨b, mp, ma, rfl, hR, b2⟩
  have hw2 := ab_trans hw (ab_trans b1 b2)
  have hX2 := hX.keep (ab_trans b1 b2)
  have hwW : w.heap.size < W1.heap.size := Nat.lt_of_lt_of_le hX.lt b1.size
  change Rn W2 W1.heap.size b mp ma x0R at hR
  have g1 := hR.geb
  have g2 := hR.gep
  have g3 := hR.gea
  have hR2 := hR
  have zB2 : W1.heap.size ≤ W2.heap.size := b2.size
  obtain ⟨y0, y1, y2⟩ := cells3 hX2
  have hbv := Below.refl W2.heap.size W2
  have E1 := neq00
  have s0 := rn_stage hR x_0.2
  clear hX x0 x1 x2 hN1
  go_upto_region 3 with fail
  go_wp2_with fail
  refine (rstage_any b 1 _ s0).mono ?_
  rintro e Z ⟨rfl, hZ⟩
  subst Z
  go_wp2_with fail
  refine (promise_any W1.heap.size b mp ma x0R 0 xB zB zB (.slice none 0 0) [] W2 hR2 zB2 (Is.nil _) (by decide)).mono ?_
  rintro e W3 ⟨rfl, hR3, F3⟩
  rw [x_0.1]
  change Rn W3 W1.heap.size b mp ma x1R at hR3
  have hX3 := hX2.frm F3 (fun h => by rcases h with e | e | e <;> omega)
  have hw3 := hw2.trans ((hR2.below F3 zB2).mono (by omega))
  have zB3 := Nat.le_trans zB2 F3.size
  obtain ⟨y0, y1, y2⟩ := cells3 hX3
  have hbv := Below.refl W3.heap.size W3
  clear hX2 F3 hR2 hR s0
  go_wp2_with fail
  refine (promise_any W1.heap.size b mp ma x1R 2 xB zB zB (.slice none 0 0) [] W3 hR3 zB3 (Is.nil _) (by decide)).mono ?_
  rintro e W4 ⟨rfl, hR4, F4⟩
  rw [x_1]
  change Rn W4 W1.heap.size b mp ma x2R at hR4
  have hX4 := hX3.frm F4 (fun h => by rcases h with e | e | e <;> omega)
  have hw4 := hw3.trans ((hR3.below F4 zB3).mono (by omega))
  have zB4 := Nat.le_trans zB3 F4.size
  obtain ⟨y0, y1, y2⟩ := cells3 hX4
  have hbv := Below.refl W4.heap.size W4
  clear hX3 F4 hR3
  go_wp2_with fail
  refine (rstage_any b 2 _ (rn_stage hR4 x_2.2)).mono ?_
  rintro e Z ⟨rfl, hZ⟩
  subst Z
  go_wp2_with fail
  refine (accepted_any W1.heap.size b mp ma x2R 1 xB W4 hR4).mono ?_
  rintro e W5 ⟨rfl, hR5, F5⟩
  rw [x_2.1]
  change Rn W5 W1.heap.size b mp ma x3R at hR5
  have hX5 := hX4.frm F5 (fun h => by rcases h with e | e | e <;> omega)
  have hw5 := hw4.trans ((hR4.below F5 zB4).mono (by omega))
  have zB5 := Nat.le_trans zB4 F5.size
  obtain ⟨y0, y1, y2⟩ := cells3 hX5
  have hbv := Below.refl W5.heap.size W5
  clear hX4 F5 hR4
  go_wp2_with fail
  refine (accepted_any W1.heap.size b mp ma x3R 0 xB W5 hR5).mono ?_
  rintro e W6 ⟨rfl, hR6, F6⟩
  rw [x_3]
  change Rn W6 W1.heap.size b mp ma x4R at hR6
  have hX6 := hX5.frm F6 (fun h => by rcases h with e | e | e <;> omega)
  have hw6 := hw5.trans ((hR5.below F6 zB5).mono (by omega))
  have zB6 := Nat.le_trans zB5 F6.size
  obtain ⟨y0, y1, y2⟩ := cells3 hX6
  have hbv := Below.refl W6.heap.size W6
  clear hX5 F6 hR5
  go_wp2_with fail
  obtain ⟨vv, d10, d11, iv⟩ := rn_val hR6
  rw [x_4.2.1] at iv
  rw [x_4.2.2, errV_ok rfl] at d11
  refine (rresult_yes b vv .nilIface [5] W6 (rn_stage hR6 x_4.1) d10 d11 iv.is (by decide)).mono ?_
  rintro e W7 ⟨q, n, c, rfl, hO7, hn7, b7⟩
  have : n = 1 := hn7.symm
  subst this
  have hR7 := hR6.keep b7
  have s7 := rn_stage hR7 x_4.1
  obtain ⟨g, o, rfl, -, r7⟩ := hO7.is.at (by omega)
  have z7 : W7.cell? ⟨g, o, none⟩ = some (.int .i64 5) := r7 0 5 rfl
  have hw7 := ab_trans hw6 b7
  have E2 := geqN0
  clear hO7 r7 hR6 hR7
  go_wp2_with fail
  refine (rstage_any b 3 _ s7).mono ?_
  rintro e Z ⟨rfl, hZ⟩
  subst Z
  go_wp2_with fail
  go_ret
  exact ⟨rfl, hw7⟩
end Go.Proofs.Ytpcejajidhfmpaa
