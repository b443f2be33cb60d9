/-
  The chapter's examples: estuarylaw03.alive.
-/
import Derived.Test.YtffgndmcamedaaaPlaceI
import Derived.Lib.SmallJoins
namespace Go.Proofs.Ytffgndmcamedaaa
open Go.RowKit
set_option linter.unusedVariables false

theorem Blk.two {W : World} {b : Nat} {x y : Value} {t : TypeId} (h : Blk W b #[x, y] t) : W.cell? ⟨b, 0, none⟩ = some x ∧ W.cell? ⟨b, 1, none⟩ = some y := ⟨h.at (i := 0) rfl, h.at (i := 1) rfl⟩
theorem Blk.five {W : World} {b : Nat} {x0 x1 x2 x3 x4 : Value} {t : TypeId} (h : Blk W b #[x0, x1, x2, x3, x4] t) : W.cell? ⟨b, 0, none⟩ = some x0 ∧ W.cell? ⟨b, 1, none⟩ = some x1 ∧ W.cell? ⟨b, 2, none⟩ = some x2 ∧ W.cell? ⟨b, 3, none⟩ = some x3 ∧ W.cell? ⟨b, 4, none⟩ = some x4 :=
  ⟨h.at (i := 0) rfl, h.at (i := 1) rfl, h.at (i := 2) rfl, h.at (i := 3) rfl, h.at (i := 4) rfl⟩
/-- Three blocks, just made. -/
theorem blk3 (w : World) (x y z : Array Value) (t u v : TypeId) : ∃ A, ((w.alloc (.cells x t)).alloc (.cells y u)).alloc (.cells z v) = A ∧ Blk A w.heap.size x t ∧ Blk A (w.heap.size + 1) y u ∧ Blk A (w.heap.size + 1 + 1) z v ∧ Below w.heap.size w A := by
  refine ⟨_, rfl, ((Blk.new w _ _).alloc _).alloc _, ?_, ?_, ab_alloc (ab_alloc (ab_alloc (Below.refl _ _) _) _) _⟩
  · refine Blk.alloc ?_ _; simpa using Blk.new (w.alloc (.cells x t)) y u
  · simpa using Blk.new ((w.alloc (.cells x t)).alloc (.cells y u)) z v
theorem blk2 (w : World) (x y : Array Value) (t u : TypeId) : ∃ A, (w.alloc (.cells x t)).alloc (.cells y u) = A ∧ Blk A w.heap.size x t ∧ Blk A (w.heap.size + 1) y u ∧ Below w.heap.size w A := by
  refine ⟨_, rfl, (Blk.new w _ _).alloc _, ?_, ab_alloc (ab_alloc (Below.refl _ _) _) _⟩
  simpa using Blk.new (w.alloc (.cells x t)) y u
theorem blk1 (w : World) (x : Array Value) (t : TypeId) : ∃ A, w.alloc (.cells x t) = A ∧ Blk A w.heap.size x t ∧ Below w.heap.size w A := ⟨_, rfl, Blk.new w _ _, ab_alloc (Below.refl _ _) _⟩
theorem idL_ex : idL (-1) 5 2 [10, 60] = [(1, -1, 5), (3, -1, 5)] := by decide +kernel
set_option maxRecDepth 100000 in
set_option maxHeartbeats 1000000 in
theorem alive3_any (w : World) : Calls Try.prog 9 #[] w fun e w' => e = .returned (.bool true) ∧ Below w.heap.size w w' := by
  go_enter Try.func9, Try.ntmps9
  go_upto_region 2 with (first
    | (refine bs_own rfl rfl [10, 60] (by simp only [List.map_toArray, List.map_cons, List.map_nil]; rfl) (isl2 _ _ _) rfl (by decide) ?_; intro W1 hN b1 z1; obtain ⟨-, q1, g1, cap1, e1, hq1, hg1, -, -, hr1⟩ := own_irow hN; cases e1; have hq1' := hq1 (by omega); cases hq1')
    | (go_at_call 18; refine (ids_any 0 0 (-1) 5 0 _ _ 0 2 2 [10, 60] 2 _ rfl (by omega) (fun _ => rfl) hg1 hr1 (by omega) (by omega) (by omega) (by omega) (by omega) (fun j r h => by have := List.mem_of_getElem? h; simp at this; omega)).mono ?_; rintro e W2 ⟨v, rfl, hown, hv, b2⟩))
  rw [idL_ex] at hown
  obtain ⟨-, q2, g2, cap2, rfl, hq2, hg2, -, -, -, -, hr2, -⟩ := own_row3 hown
  cases hq2 (by omega)
  have hg2' := hg2 (by omega)
  have hw2 := ab_trans b1 b2
  clear hN hr1 hg1 hq1 hown hv hq2 hg2 b1 b2 z1
  go_upto_region 3 with (go_at_call 10; refine (after_any _ _ _ (by omega) (by omega) (by omega) (by omega)).mono ?_; rintro e W3 ⟨rfl, b3⟩)
  have hr3 := row3_keep hr2 (fun _ => hg2') b3
  have hg3 := Nat.lt_of_lt_of_le hg2' b3.size
  obtain ⟨m0, m1, m2⟩ := hr3 0 _ rfl
  obtain ⟨m3, -, -⟩ := hr3 1 _ rfl
  have hw3 := ab_trans hw2 b3
  have hx1 : afW 3 9223372036854775807 = 4 := by decide +kernel
  have hx2 : afK 3 9223372036854775807 = -9223372036854775808 := by decide +kernel
  have hx3 : afB 3 9223372036854775807 = true := by decide +kernel
  rw [hx1, hx2, hx3]
  dsimp only [Nat.zero_add, Nat.zero_mul, Nat.one_mul, Nat.add_zero] at m0 m1 m2 m3
  clear hr2 hr3 hw2 b3 hx1 hx2 hx3
  have hne : g2 ≠ W3.heap.size := by omega
  have hd1 : flD (-1) 10 = -1 := by decide +kernel
  go_wp2_with (go_at_call 20; refine (closed_any _ _ _ (by omega) (by omega) (by omega)).mono ?_; rintro e W4 ⟨rfl, b4⟩; rw [hd1]; have y0 : W4.cell? ⟨W3.heap.size, 0, none⟩ = some (.int .i64 4) := (b4.cell (p := ⟨W3.heap.size, 0, none⟩) (by simp)).trans (by simp [go_sem]); have y1 : W4.cell? ⟨W3.heap.size, 1, none⟩ = some (.int .i64 (-9223372036854775808)) := (b4.cell (p := ⟨W3.heap.size, 1, none⟩) (by simp)).trans (by simp [go_sem]))
  go_ret
  exact ⟨rfl, ab_trans (ab_alloc hw3 _) b4⟩
end Go.Proofs.Ytffgndmcamedaaa
