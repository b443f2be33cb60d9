/-
  The answers of Prepare and Accept one by one; the chapter's example: estuarylaw09.alive.
-/
import Derived.Test.YthpiajnnfchcjaaBlE
import Derived.Lib.SmallJoins
namespace Go.Proofs.Ythpiajnnfchcjaa
open Go.RowKit
set_option linter.unusedVariables false

theorem prepare_ok (r : Rg) (b : Bt) (v : Value) (w : World) (hv : Is w v r.l) (h : prN r b = 0) :
    Calls Try.prog 13 #[rV r.p r.a v, bV b] w fun e w' => ∃ q c, e = .returned (.tuple #[rV b r.a (.slice q r.l.length c), .nilIface]) ∧ Io w' w.heap.size (.slice q r.l.length c) r.l ∧ Below w.heap.size w w' := by
  refine (prepare_any r b v w hv).mono ?_
  rintro e w' ⟨⟨q, n, c, rfl, hO, hn⟩, hb⟩
  rw [prR_ok h] at hO hn ⊢
  rw [errV_ok h]
  dsimp only at hn
  subst hn
  exact ⟨q, c, rfl, hO, hb⟩
theorem prepare_no (r : Rg) (b : Bt) (v : Value) (w : World) (k : Nat) (hv : Is w v r.l) (h : prN r b = k) (hk : k ≠ 0) :
    Calls Try.prog 13 #[rV r.p r.a v, bV b] w fun e w' => ∃ q c, e = .returned (.tuple #[rV zB zB (.slice q 0 c), Err k]) ∧ Io w' w.heap.size (.slice q 0 c) [] ∧ Below w.heap.size w w' := by
  refine (prepare_any r b v w hv).mono ?_
  rintro e w' ⟨⟨q, n, c, rfl, hO, hn⟩, hb⟩
  rw [prR_no (by omega)] at hO hn ⊢
  rw [errV_no (by omega), h]
  have : n = 0 := hn.symm
  subst this
  exact ⟨q, c, rfl, hO, hb⟩
theorem accept_ok (r : Rg) (b : Bt) (m : List Int) (v u : Value) (w : World) (hv : Is w v r.l) (hu : Is w u m) (h : acN r b m = 0) :
    Calls Try.prog 15 #[rV r.p r.a v, bV b, u] w fun e w' => ∃ q c, e = .returned (.tuple #[rV b b (.slice q m.length c), .nilIface]) ∧ Io w' w.heap.size (.slice q m.length c) m ∧ Below w.heap.size w w' := by
  refine (accept_any r b v u m w hv hu).mono ?_
  rintro e w' ⟨⟨q, n, c, rfl, hO, hn⟩, hb⟩
  rw [acR_ok h] at hO hn ⊢
  rw [errV_ok h]
  dsimp only at hn
  subst hn
  exact ⟨q, c, rfl, hO, hb⟩
theorem accept_no (r : Rg) (b : Bt) (m : List Int) (v u : Value) (w : World) (k : Nat) (hv : Is w v r.l) (hu : Is w u m) (h : acN r b m = k) (hk : k ≠ 0) :
    Calls Try.prog 15 #[rV r.p r.a v, bV b, u] w fun e w' => ∃ q c, e = .returned (.tuple #[rV zB zB (.slice q 0 c), Err k]) ∧ Io w' w.heap.size (.slice q 0 c) [] ∧ Below w.heap.size w w' := by
  refine (accept_any r b v u m w hv hu).mono ?_
  rintro e w' ⟨⟨q, n, c, rfl, hO, hn⟩, hb⟩
  rw [acR_no (by omega)] at hO hn ⊢
  rw [errV_no (by omega), h]
  have : n = 0 := hn.symm
  subst this
  exact ⟨q, c, rfl, hO, hb⟩
theorem eqBB (w : World) : (binOp .eql 35 (Err 11) (Err 11)).run Try.prog w = .ok (.bool true) w := by kernel_rfl
theorem eqN0 (w : World) : (binOp .eql 35 .nilIface .nilIface).run Try.prog w = .ok (.bool true) w := by kernel_rfl
def b100 : Bt := ⟨1, 0, 0⟩
def b099 : Bt := ⟨0, 9, 9⟩
def b101 : Bt := ⟨1, 0, 1⟩
theorem ex_1 : prN zR b100 = 0 := by decide +kernel
theorem ex_2 : acN ⟨b100, zB, []⟩ b100 [7] = 0 := by decide +kernel
theorem ex_3 : prN ⟨b100, b100, [7]⟩ b100 = 11 := by decide +kernel
theorem ex_4 : acN ⟨b100, b100, [7]⟩ b099 [] = 11 := by decide +kernel
theorem ex_5 : prN ⟨b100, b100, [7]⟩ b101 = 0 := by decide +kernel
set_option maxHeartbeats 2000000 in
set_option maxRecDepth 100000 in
theorem alive9_any (w : World) : Calls Try.prog 11 #[] w fun e w' => e = .returned (.bool true) ∧ Below w.heap.size w w' := by
  go_enter Try.func11, Try.ntmps11
  go_upto_region 2 with fail
  obtain ⟨A, hAe, hB, hw⟩ := blk1 w (bC b100) 23
  rw [show w.alloc (.cells #[.int .i64 1, .int .i64 0, .int .i64 0] 23) = A from hAe]
  clear hAe
  have x0 : A.cell? ⟨w.heap.size, 0, none⟩ = some (.int .i64 1) := hB.at rfl
  have x1 : A.cell? ⟨w.heap.size, 1, none⟩ = some (.int .i64 0) := hB.at rfl
  have x2 : A.cell? ⟨w.heap.size, 2, none⟩ = some (.int .i64 0) := hB.at rfl
  go_upto_region 3 with (go_at_call 13; refine (prepare_ok zR b100 _ _ (Is.nil _) ex_1).mono ?_; rintro e W1 ⟨q1, c1, rfl, hO1, b1⟩)
  obtain ⟨B, hE, hR1, bB⟩ := blk1 W1 (rC b100 zR.a (.slice q1 zR.l.length c1)) 31
  rw [hE]
  clear hE
  have hB1 := hB.keep (ab_trans b1 bB)
  have hw1 := ab_trans hw (ab_trans b1 bB)
  have hI1 := hO1.is.keep bB
  clear hB hw b1 bB x0 x1 x2 hO1
  generalize W1.heap.size = g1 at *
  generalize zR.l.length = n1 at *
  obtain ⟨y0, y1, y2, y3, y4, y5, y6⟩ := cells7 hR1
  obtain ⟨x0, x1, x2⟩ := cells3 hB1
  have hbv := Below.refl B.heap.size B
  go_upto_region 4 with (first
    | (refine bs_own rfl rfl [7] (by simp only [List.map_toArray, List.map_cons, List.map_nil]; rfl) (isl1 _ _) rfl (by decide) ?_; intro W2 hN2 b2 z2; clear z2; have hbv := b2)
    | (go_at_call 15; refine (accept_ok ⟨b100, zR.a, zR.l⟩ b100 [7] _ _ _ (hI1.keep b2) (own_is hN2) ex_2).mono ?_; rintro e W3 ⟨q3, c3, rfl, hO3, b3⟩))
  obtain ⟨C, hE, hR3, bC'⟩ := blk1 W3 (rC b100 b100 (.slice q3 1 c3)) 31
  rw [hE]
  clear hE
  have hB3 := hB1.keep (ab_trans b2 (ab_trans b3 bC'))
  have hw3 := ab_trans hw1 (ab_trans b2 (ab_trans b3 bC'))
  have hI3 : Is C (.slice q3 1 c3) [7] := hO3.is.keep bC'
  clear hB1 hw1 b2 b3 bC' x0 x1 x2 hO3 y0 y1 y2 y3 y4 y5 y6 hbv hR1 hI1 hN2
  generalize W3.heap.size = g3 at *
  obtain ⟨y0, y1, y2, y3, y4, y5, y6⟩ := cells7 hR3
  obtain ⟨x0, x1, x2⟩ := cells3 hB3
  have hbv := Below.refl C.heap.size C
  go_upto_region 5 with (go_at_call 13; refine (prepare_no ⟨b100, b100, [7]⟩ b100 _ _ 11 hI3 ex_3 (by decide)).mono ?_; rintro e W4 ⟨q4, c4, rfl, -, b4⟩; have hbv := b4)
  obtain ⟨V5, hE, -, b5⟩ := blk1 W4 (rC zB zB (.slice q4 0 c4)) 31
  rw [hE]
  have hbv := ab_trans hbv b5
  clear hE
  go_upto_region 6 with (go_at_call 15; refine (accept_no ⟨b100, b100, [7]⟩ b099 [] _ _ _ 11 (hI3.keep hbv) (Is.nil _) ex_4 (by decide)).mono ?_; rintro e W6 ⟨q6, c6, rfl, -, b6⟩; have hbv := ab_trans hbv b6)
  obtain ⟨V7, hE, -, b7⟩ := blk1 W6 (rC zB zB (.slice q6 0 c6)) 31
  rw [hE]
  have hbv := ab_trans hbv b7
  clear hE
  go_upto_region 7 with (go_at_call 13; refine (prepare_ok ⟨b100, b100, [7]⟩ b101 _ _ (hI3.keep hbv) ex_5).mono ?_; rintro e W8 ⟨q8, c8, rfl, hO8, b8⟩; have hbv := ab_trans hbv b8)
  obtain ⟨V9, hE, hR9, b9⟩ := blk1 W8 (rC b101 b100 (.slice q8 1 c8)) 31
  rw [hE]
  have hbv := ab_trans hbv b9
  clear hE
  have hI9 : Is V9 (.slice q8 1 c8) [7] := hO8.is.keep b9
  obtain ⟨g, off, rfl, hg, hr⟩ := hI9.at (by omega)
  have z0 : V9.cell? ⟨g, off, none⟩ = some (.int .i64 7) := hr 0 7 rfl
  have hwv := ab_trans hw3 hbv
  have hc9 := hI9.len
  obtain ⟨u0, u1, u2, u3, u4, u5, u6⟩ := cells7 hR9
  have hb9 := Below.refl V9.heap.size V9
  have E1 := eqBB
  have E2 := eqN0
  go_wp2_with fail
  go_ret
  exact ⟨rfl, hwv⟩
end Go.Proofs.Ythpiajnnfchcjaa
