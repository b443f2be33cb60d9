/-
  A nil watch's Want; same; the chapter's example: estuarylaw13.alive.
-/
import Derived.Test.YtddpdmolknfjaaaTnC
import Derived.Lib.SmallJoins
namespace Go.Proofs.Ytddpdmolknfjaaa
open Go.RowKit
set_option linter.unusedVariables false
set_option maxRecDepth 100000

set_option maxHeartbeats 1000000 in
theorem twant_nil (w : World) : Calls Try.prog 19 #[.pointer none] w fun e w' => e = .returned (cgV 1 (.slice none 0 0) (.slice none 0 0)) ∧ Below w.heap.size w w' := by
  obtain ⟨A, hAe, hB, hw⟩ := blk1 w (cgC 0 (.slice none 0 0) (.slice none 0 0)) 51
  go_enter Try.func19, Try.ntmps19
  go_upto_region 1 with fail
  clear hAe
  go_wp2_with fail
  refine (gread_any _).mono ?_
  rintro e W1 ⟨rfl, b1⟩
  go_wp2_with (refine st_cg rfl rfl (hB.keep b1) rfl rfl ?_; intro W5 hB5 C5)
  exact bodyPost_ret (results_cell_row rfl _ _ _ 51 _ (0, 0) _ rfl hB5 Try.underlying51 rfl (info_cg _ _ _)) rfl ⟨rfl, ab_chg (ab_trans hw b1) C5 (Nat.le_refl _)⟩
theorem fld0 (k : Int) (q1 : Option Addr) (n1 c1 : Nat) (q2 : Option Addr) (n2 c2 : Nat) (w : World) : (Instr.field 51 (cgV k (.slice q1 n1 c1) (.slice q2 n2 c2)) 0).run Try.prog w = .ok (.int .i64 k) w := by kernel_rfl
theorem Wh.below {W W' : World} {base b : Nat} {S : Wt} (h : Wh W base b S) (hf : Frm (fun k => k = b) W W') : Below base W W' := hf.below (Nat.le_trans h.ge (Nat.le_of_lt h.lt)) (fun k hk => by rw [hk]; exact h.ge)
abbrev aS1 : Wt := sawW (newW 2 0 3) []
abbrev aS2 : Wt := sawW aS1 [1, 2, 0, 0]
theorem ax0 : wnK (newW 2 0 3) = 1 := by decide +kernel
theorem ax1 : wnK aS1 = 2 ∧ wnO aS1 = [] ∧ wnN aS1 = [1, 2, 0, 0] := by decide +kernel
theorem ax2 : ldN aS2 = 1 ∧ ldB aS2 = true ∧ wnN aS2 = [1, 2, 0, 1] := by decide +kernel
set_option maxHeartbeats 2000000 in
theorem alive13_any (w : World) : Calls Try.prog 10 #[] w fun e w' => e = .returned (.bool true) ∧ Below w.heap.size w w' := by
  go_enter Try.func10, Try.ntmps10
  go_wp2_with fail
  refine (tnew_ok 2 0 3 _ (by decide)).mono ?_
  rintro e W1 ⟨b, rfl, hW1, b1⟩
  have E1 := neq00
  go_wp2_with fail
  refine (twant_any _ b _ _ hW1).mono ?_
  rintro e W2 ⟨⟨q1, c1, q2, c2, rfl, -, -⟩, b2⟩
  rw [ax0]
  have E2 := fld0 1 q1 (wnO (newW 2 0 3)).length c1 q2 (wnN (newW 2 0 3)).length c2
  go_upto_region 4 with fail
  clear E1 E2
  have hW2 := hW1.keep b2
  have hw2 := ab_trans b1 b2
  clear hW1 b1 b2
  go_wp2_with fail
  refine (tsaw_any _ b _ _ [] _ hW2 (Is.nil _) (by decide)).mono ?_
  rintro e W3 ⟨rfl, hW3, f3⟩
  have hw3 : Below w.heap.size w W3 := hw2.trans (hW2.below f3)
  clear f3 hW2 hw2
  go_wp2_with fail
  refine (twant_any _ b _ _ hW3).mono ?_
  rintro e W4 ⟨⟨q3, c3, q4, c4, rfl, hO3, hO4⟩, b4⟩
  rw [ax1.1] at *
  rw [ax1.2.1] at hO3 ⊢
  rw [ax1.2.2] at hO4 ⊢
  have hW4 := hW3.keep b4
  have hw4 := ab_trans hw3 b4
  obtain ⟨A, hAe, hB, hwA⟩ := blk1 W4 (cgC 0 (.slice none 0 0) (.slice none 0 0)) 51
  go_upto_region 6 with (refine st_cg rfl rfl hB rfl rfl ?_; intro W5 hB5 C5)
  have b5 : Below W4.heap.size W4 W5 := ab_chg hwA C5 (Nat.le_refl _)
  have hW5 := hW4.keep b5
  have hw5 := ab_trans hw4 b5
  have hO5 := hO4.keep b5
  have y2 : W5.cell? ⟨W4.heap.size, 2, none⟩ = some (.slice q4 4 c4) := hB5.at rfl
  clear hAe hB hwA C5 hW3 hW4 hw3 hw4 b4 hO3 hO4 b5
  go_wp2_with fail
  refine (tsaw_any _ b _ _ [1, 2, 0, 0] _ hW5 hO5.is (by decide)).mono ?_
  rintro e W6 ⟨rfl, hW6, f6⟩
  have hw6 : Below w.heap.size w W6 := hw5.trans (hW5.below f6)
  have hO6 := hO5.frm f6 hW5.noI
  have hB6 := hB5.frm f6 (fun e => by subst e; obtain ⟨_, _, h1, _⟩ := hW5.mem; exact absurd (h1.kindR.uniq hB5.kindR) (by decide))
  clear f6 hW5 hw5 hO5 hB5 y2
  go_wp2_with fail
  refine (tleads_any _ b _ _ hW6).mono ?_
  rintro e W7 ⟨rfl, b7⟩
  rw [ax2.1, ax2.2.1]
  have hW7 := hW6.keep b7
  have hw7 := ab_trans hw6 b7
  have hB7 := hB6.keep b7
  have hO7 := hO6.keep b7
  clear hW6 hw6 hB6 hO6 b7
  go_wp2_with fail
  refine (twant_any _ b _ _ hW7).mono ?_
  rintro e W8 ⟨⟨q5, c5, q6, c6, rfl, hP3, hP4⟩, b8⟩
  rw [ax2.2.2] at hP4 ⊢
  have hw8 := ab_trans hw7 b8
  have hB8 := hB7.keep b8
  have hO8 := hO7.keep b8
  obtain ⟨A, hAe, hB, hwA⟩ := blk1 W8 (cgC 0 (.slice none 0 0) (.slice none 0 0)) 51
  go_upto_region 9 with (refine st_cg rfl rfl hB rfl rfl ?_; intro W9 hB9 C9)
  have b9 : Below W8.heap.size W8 W9 := ab_chg hwA C9 (Nat.le_refl _)
  have hw9 := ab_trans hw8 b9
  have hB8 := hB8.keep b9
  have hO8 := hO8.keep b9
  have hP8 := hP4.keep b9
  have y0 : W9.cell? ⟨W4.heap.size, 0, none⟩ = some (.int .i64 2) := hB8.at rfl
  have y2 : W9.cell? ⟨W4.heap.size, 2, none⟩ = some (.slice q4 4 c4) := hB8.at rfl
  have z2 : ∀ V, Below W9.heap.size W9 V → V.cell? ⟨W8.heap.size, 2, none⟩ = some (.slice q6 4 c6) := fun V hb => (hB9.keep hb).at rfl
  clear hAe hB hwA C9 hW7 hw7 hB7 hO7 hw8 hP3 hP4 b8 b9 hB9 hB8
  go_wp2_with (refine bs_own rfl rfl [1, 2, 0, 0] (by simp only [List.map_toArray, List.map_cons, List.map_nil]; rfl) (isl4 _ _ _ _ _) rfl (by decide) ?_; intro V1 hN1 v1 z1; clear z1; go_frame)
  refine (gints_any _ _ [1, 2, 0, 0] [1, 2, 0, 0] _ (hO8.is.keep v1) (own_is hN1) (by decide) (by decide)).mono ?_
  rintro e V2 ⟨rfl, v2⟩
  rw [show decide (([1, 2, 0, 0] : List Int) = [1, 2, 0, 0]) = true from rfl]
  have v12 := ab_trans v1 v2
  have z2 := z2 V2 v12
  have hP9 := hP8.keep v12
  have hw9 := ab_trans hw9 v12
  clear hO8 hN1 v1 v2 hP8 v12 y0 y2
  go_wp2_with (refine bs_own rfl rfl [1, 2, 0, 1] (by simp only [List.map_toArray, List.map_cons, List.map_nil]; rfl) (isl4 _ _ _ _ _) rfl (by decide) ?_; intro V3 hN3 v3 z3; clear z3; go_frame)
  refine (gints_any _ _ [1, 2, 0, 1] [1, 2, 0, 1] _ (hP9.is.keep v3) (own_is hN3) (by decide) (by decide)).mono ?_
  rintro e V4 ⟨rfl, v4⟩
  rw [show decide (([1, 2, 0, 1] : List Int) = [1, 2, 0, 1]) = true from rfl]
  go_wp2_with fail
  go_ret
  exact ⟨rfl, ab_trans hw9 (ab_trans v3 v4)⟩
end Go.Proofs.Ytddpdmolknfjaaa
