/-
  Keeper: the chapter's example: estuarylaw12.alive.
-/
import Derived.Test.YtlhamckpgijjmaaPk49
namespace Go.Proofs.Ytlhamckpgijjmaa
open Go.RowKit
set_option linter.unusedVariables false
set_option maxRecDepth 100000

abbrev xn1 : Nt := ⟨1, 5, 3, [0, 1, 5, 0], [], []⟩
abbrev xn2 : Nt := ⟨3, 5, 3, [0, 1, 5, 0, 7], [], []⟩
abbrev xn3 : Nt := ⟨1, 5, 3, [0, 1, 4, 0], [], []⟩
abbrev xr1 : Rg := ⟨⟨1, 5, 0⟩, zB, []⟩
abbrev xr2 : Rg := ⟨⟨1, 5, 0⟩, ⟨1, 5, 0⟩, [7]⟩
theorem xk1 : skN 1 (rgK zK) [0, 1, 5, 0] = 0 := by decide +kernel
theorem xs1 : skR 1 (rgK zK) [0, 1, 5, 0] = xr1 := by kernel_rfl
theorem xk2 : skN 3 xr1 [0, 1, 5, 0, 7] = 0 := by decide +kernel
theorem xs2 : skR 3 xr1 [0, 1, 5, 0, 7] = xr2 := by kernel_rfl
theorem xk3 : skN 1 xr2 [0, 1, 4, 0] = 11 := by decide +kernel
theorem xw1 : wrN (up [] 0 0) (frm (rowB 0 xr1)) = 0 := by decide +kernel
abbrev xT1 : TS := wrS (up [] 0 0) (frm (rowB 0 xr1))
theorem xw2 : wrN xT1 (frm (rowB 0 xr2)) = 0 := by decide +kernel
theorem xst : xT1.steps < 100 := by decide +kernel
theorem xb1 : (rowB 0 xr1).length ≤ 1000 := by decide +kernel
theorem xask1 : askB xn1 := ⟨.inl rfl, ⟨by simp, by simp, by unfold FitK; simp, fun o ho => by simp at ho⟩, by decide +kernel⟩
theorem xask2 : askB xn2 := ⟨.inr rfl, ⟨by simp, by simp, by unfold FitK; simp, fun o ho => by simp at ho⟩, by decide +kernel⟩
theorem xask3 : askB xn3 := ⟨.inl rfl, ⟨by simp, by simp, by unfold FitK; simp, fun o ho => by simp at ho⟩, by decide +kernel⟩
theorem in64_small {l : List Int} (h : ∀ x ∈ l, 0 ≤ x ∧ x ≤ 100) : In64 l := fun x hx => by have := h x hx; omega
theorem isl5k (a b c d e : Int) (w : World) : (Instr.buildSlice 31 5 #[(0, .int .i64 a), (1, .int .i64 b), (2, .int .i64 c), (3, .int .i64 d), (4, .int .i64 e)]).run Try.prog w = .ok (.slice (some ⟨w.heap.size, 0, none⟩) 5 5) (w.alloc (.cells (ints [a, b, c, d, e]).toArray 3)) := by kernel_rfl
set_option maxHeartbeats 4000000 in
theorem alive12_any (w : World) : Calls Try.prog 7 #[] w fun e w' => e = .returned (.bool true) ∧ Below w.heap.size w w' := by
  go_enter Try.func7, Try.ntmps7
  go_wp2_with fail
  refine (new_any _).mono ?_
  rintro e W1 ⟨rfl, h1, b1⟩
  go_wp2_with fail
  refine (kopen_new _ _ _ 0 0 3 _ h1 (by omega) (by omega) (by omega)).mono ?_
  rintro e W2 ⟨d, kb, v2, rfl, hK2, hd, hkb, m2⟩
  have hb2 : Below w.heap.size w W2 := b1.trans (h1.below m2)
  have E1 := ne00
  clear h1 m2 b1
  go_upto_region 4 with fail
  clear E1
  go_wp2_with (refine bs_own rfl rfl [0, 1, 5, 0] (by simp only [List.map_toArray, List.map_cons, List.map_nil]; rfl) (isl4 _ _ _ _ _) rfl (by decide) ?_; intro W3 hN3 b3 z3; clear z3; go_frame)
  have hK3 := hK2.keep b3
  have hb3 := ab_trans hb2 b3
  have hI3 : Ik W3 w.heap.size _ [0, 1, 5, 0] := .inl ((io_of (l := [0, 1, 5, 0]) hN3).less hb2.size)
  clear hK2 hb2 b3 hN3
  have hx0 : (List.replicate 100 zK)[0]? = some zK := rfl
  refine (khandle_keep _ _ _ d kb 0 _ 0 0 3 _ zK xn1 _ _ _ _ hK3 (by decide) (by omega) (by omega) hI3 (SR.nil _ _ _) (SR.nil _ _ _) rfl xask1 rfl hx0 (by omega) (by decide) xk1 (by rw [xs1]; exact in64_small (by decide)) (by rw [xs1]; decide)).mono ?_
  rintro e W4 ⟨v4, m4, -, hk4⟩
  rw [show skR xn1.k (rgK zK) xn1.ns = xr1 from xs1] at hk4
  obtain ⟨q4, n4, c4, hK4, hA4⟩ := hk4 xw1
  clear hk4
  obtain ⟨g4, qa, na, ca, rfl, -, hB4, -, -⟩ := hA4
  obtain ⟨nb4, hnb4⟩ : ∃ n, 0 + (8 + (rowB ((0 : Nat) : Int) xr1).length) = n := ⟨_, rfl⟩
  have hnb4' : nb4 ≤ 2000 := by have h9 : (rowB ((0 : Nat) : Int) xr1).length ≤ 1000 := xb1; omega
  rw [hnb4] at hK4
  have hK4 : Kp W4 w.heap.size w.heap.size v4 d kb xT1 1 nb4 3 ((List.replicate 100 zK).set 0 ⟨xr1.p, xr1.a, .slice q4 n4 c4, xr1.l⟩) := hK4
  have hb4 : Below w.heap.size w W4 := hb3.trans (m4.below' hK3)
  have hB4 : Blk W4 g4 (ntC 2 3 5 (.slice qa na ca) (.slice none 0 0) (.slice none 0 0)) 35 := hB4
  clear hnb4 m4 hK3 hI3 hb3 hx0
  go_wp2_with (refine bs_own rfl rfl [0, 1, 5, 0, 7] (by simp only [List.map_toArray, List.map_cons, List.map_nil]; rfl) (isl5k _ _ _ _ _ _) rfl (by decide) ?_; intro W5 hN5 b5 z5; clear z5; go_frame)
  have hK5 := hK4.keep b5
  have hB5 := hB4.keep b5
  have hI5 : Ik W5 w.heap.size _ [0, 1, 5, 0, 7] := .inl ((io_of (l := [0, 1, 5, 0, 7]) hN5).less hb4.size)
  have hb5 := ab_trans hb4 b5
  clear hK4 hB4 hN5 hb4 b5
  have hx5 : ((List.replicate 100 zK).set 0 ⟨xr1.p, xr1.a, .slice q4 n4 c4, xr1.l⟩)[0]? = some ⟨xr1.p, xr1.a, .slice q4 n4 c4, xr1.l⟩ := rfl
  refine (khandle_keep _ _ _ d kb 0 _ 1 nb4 3 _ ⟨xr1.p, xr1.a, .slice q4 n4 c4, xr1.l⟩ xn2 _ _ _ _ hK5 (by have := xst; omega) (by omega) (by omega) hI5 (SR.nil _ _ _) (SR.nil _ _ _) rfl xask2 rfl hx5 (by omega) (show ([] : List Int).length ≤ 1000 by decide) xk2 (by rw [show skR xn2.k (rgK ⟨xr1.p, xr1.a, .slice q4 n4 c4, xr1.l⟩) xn2.ns = xr2 from xs2]; exact in64_small (by decide)) (by rw [show skR xn2.k (rgK ⟨xr1.p, xr1.a, .slice q4 n4 c4, xr1.l⟩) xn2.ns = xr2 from xs2]; decide)).mono ?_
  rintro e W6 ⟨v6, m6, -, hk6⟩
  rw [show skR xn2.k (rgK ⟨xr1.p, xr1.a, .slice q4 n4 c4, xr1.l⟩) xn2.ns = xr2 from xs2] at hk6
  obtain ⟨q6, n6, c6, hK6, hA6⟩ := hk6 xw2
  clear hk6
  obtain ⟨g6, qb, nb, cb, rfl, -, hB6, -, -⟩ := hA6
  have hB6 : Blk W6 g6 (ntC 4 3 5 (.slice qb nb cb) (.slice none 0 0) (.slice none 0 0)) 35 := hB6
  have hA6 := hB5.km m6 hK5 (by decide) (by decide) (by decide) (by decide)
  have hb6 : Below w.heap.size w W6 := hb5.trans (m6.below' hK5)
  clear m6 hK5 hI5 hb5 hx5 hB5
  go_wp2_with (refine bs_own rfl rfl [0, 1, 4, 0] (by simp only [List.map_toArray, List.map_cons, List.map_nil]; rfl) (isl4 _ _ _ _ _) rfl (by decide) ?_; intro W7 hN7 b7 z7; clear z7; go_frame)
  have hK7 := hK6.keep b7
  have hx7 : (((List.replicate 100 zK).set 0 ⟨xr1.p, xr1.a, .slice q4 n4 c4, xr1.l⟩).set 0 ⟨xr2.p, xr2.a, .slice q6 n6 c6, xr2.l⟩)[0]? = some ⟨xr2.p, xr2.a, .slice q6 n6 c6, xr2.l⟩ := rfl
  refine (khandle_stale kb d 0 3 _ ⟨xr2.p, xr2.a, .slice q6 n6 c6, xr2.l⟩ xn3 _ _ _ _ hK7.kp (own_is hN7) (SR.nil _ _ _) (SR.nil _ _ _) rfl xask3 rfl hx7 (by omega) (hK7.im _ (List.mem_of_getElem? hx7)).is (show ([7] : List Int).length ≤ 1000 by decide) xk3).mono ?_
  rintro e W8 ⟨⟨g8, qc, nc, cc, rfl, -, hB8, -, hn8⟩, b8⟩
  have hn8 : nc = 7 := hn8.symm
  subst hn8
  have hB8 : Blk W8 g8 (ntC 5 3 5 (.slice qc 7 cc) (.slice none 0 0) (.slice none 0 0)) 35 := hB8
  have b68 := ab_trans b7 b8
  have hK8 := hK6.keep b68
  have hA8 := hA6.keep b68
  have hC8 := hB6.keep b68
  have hb8 := ab_trans hb6 b68
  clear hK6 hK7 hA6 hB6 hb6 b7 b8 b68 hN7
  go_wp2_with fail
  refine (kregister_any kb d 0 3 _ ⟨xr2.p, xr2.a, .slice q6 n6 c6, xr2.l⟩ _ hK8.kp hx7 (by omega) (hK8.im _ (List.mem_of_getElem? hx7)).is (show ([7] : List Int).length ≤ 100000 by decide)).mono ?_
  rintro e W9 ⟨⟨q9, n9, c9, rfl, hO9, hn9⟩, b9⟩
  have hn9 : n9 = 1 := hn9.symm
  subst hn9
  rw [show rgK ⟨xr2.p, xr2.a, .slice q6 n6 c6, xr2.l⟩ = xr2 from rfl]
  go_upto_region 8 with fail
  generalize hAe : W9.alloc _ = W10
  have hB10 : Blk W10 W9.heap.size (rC ⟨1, 5, 0⟩ ⟨1, 5, 0⟩ (.slice q9 1 c9)) 40 := by rw [← hAe]; exact Blk.new _ _ _
  have b10 : Below W9.heap.size W9 W10 := by rw [← hAe]; exact (Below.refl _ _).alloc (Nat.le_refl _) _
  have b810 := ab_trans b9 b10
  have hK10 := hK8.keep b810
  have hA10 := hA8.keep b810
  have hC10 := hC8.keep b810
  have hD10 := hB8.keep b810
  have hO10 := hO9.keep b10
  have hb10 := ab_trans hb8 b810
  clear hAe hK8 hA8 hC8 hB8 hb8 b9 b10 b810 hO9
  obtain ⟨gq, oq, rfl, -, rq⟩ := hO10.is.at (by omega)
  have x0 : W10.cell? ⟨g4, 0, none⟩ = some (.int .i64 2) := hA10.at rfl
  have x2 : W10.cell? ⟨g4, 2, none⟩ = some (.int .i64 5) := hA10.at rfl
  have y0 : W10.cell? ⟨g6, 0, none⟩ = some (.int .i64 4) := hC10.at rfl
  have z0 : W10.cell? ⟨g8, 0, none⟩ = some (.int .i64 5) := hD10.at rfl
  have z3 : W10.cell? ⟨g8, 3, none⟩ = some (.slice qc 7 cc) := hD10.at rfl
  have r6 : W10.cell? ⟨W9.heap.size, 6, none⟩ = some (.slice (some ⟨gq, oq, none⟩) 1 c9) := hB10.at rfl
  have v0 : W10.cell? ⟨gq, oq, none⟩ = some (.int .i64 7) := rq 0 7 rfl
  clear rq hO10 hA10 hC10 hD10 hB10
  go_wp2_with fail
  refine (krows_any _ d kb _ _ 3 _ _ hK10.kp hK10.dy).mono ?_
  rintro e W11 ⟨rfl, rfl⟩
  go_wp2_with fail
  go_ret
  exact ⟨rfl, hb10⟩
end Go.Proofs.Ytlhamckpgijjmaa
