/-
  Answers that a round doesn't hear.
-/
import Derived.Test.YtpcejajidhfmpaaRuF
namespace Go.Proofs.Ytpcejajidhfmpaa
open Go.RowKit
set_option linter.unusedVariables false
set_option maxRecDepth 100000

set_option maxHeartbeats 1000000 in
theorem promise_deaf (B b mp ma : Nat) (R : Rd) (k : Int) (x p a : Bt) (q : Option Addr) (n c : Nat) (w : World) (h : Rn w B b mp ma R) (hd : hearB R k x = false) :
    Calls Try.prog 19 #[rptr b, .int .i64 k, bV x, rV p a (.slice q n c)] w fun e w' => e = .returned (.bool false) ∧ Below w.heap.size w w' := by
  go_enter Try.func19, Try.ntmps19
  go_upto_region 1 with fail
  obtain ⟨A, hAe, hX, hY, hw⟩ := blk2 w (bC x) (rC p a (.slice q n c)) 23 61
  rw [hAe]
  clear hAe
  have hA := h.keep hw
  obtain ⟨c0, c1, c2, c3, c7, c8, c9⟩ := hear_cells hA
  obtain ⟨x0, x1, x2⟩ := cells3 hX
  have hbv := Below.refl A.heap.size A
  go_wp2_with fail
  refine (hears_any R b k x A (c0 _ hbv) (c1 _ hbv) (c2 _ hbv) (c3 _ hbv)).mono ?_
  rintro e W1 ⟨rfl, b1⟩
  rw [hd]
  go_wp2_with fail
  go_ret
  exact ⟨rfl, ab_trans hw b1⟩
set_option maxHeartbeats 1000000 in
theorem accepted_deaf (B b mp ma : Nat) (R : Rd) (k : Int) (x : Bt) (w : World) (h : Rn w B b mp ma R) (hd : hearB R k x = false) :
    Calls Try.prog 20 #[rptr b, .int .i64 k, bV x] w fun e w' => e = .returned (.bool false) ∧ Below w.heap.size w w' := by
  go_enter Try.func20, Try.ntmps20
  go_upto_region 1 with fail
  obtain ⟨A, hAe, hX, hw⟩ := blk1 w (bC x) 23
  rw [hAe]
  clear hAe
  have hA := h.keep hw
  obtain ⟨c0, c1, c2, c3, c7, c8, c9⟩ := hear_cells hA
  obtain ⟨x0, x1, x2⟩ := cells3 hX
  have hbv := Below.refl A.heap.size A
  go_wp2_with fail
  refine (hears_any R b k x A (c0 _ hbv) (c1 _ hbv) (c2 _ hbv) (c3 _ hbv)).mono ?_
  rintro e W1 ⟨rfl, b1⟩
  rw [hd]
  go_wp2_with fail
  go_ret
  exact ⟨rfl, ab_trans hw b1⟩
set_option maxHeartbeats 1000000 in
theorem refused_deaf (B b mp ma : Nat) (R : Rd) (k : Int) (x g : Bt) (w : World) (h : Rn w B b mp ma R) (hd : hearB R k x = false) :
    Calls Try.prog 21 #[rptr b, .int .i64 k, bV x, bV g] w fun e w' => e = .returned (.bool false) ∧ Below w.heap.size w w' := by
  go_enter Try.func21, Try.ntmps21
  go_upto_region 1 with fail
  obtain ⟨A, hAe, hX, hY, hw⟩ := blk2 w (bC x) (bC g) 23 23
  rw [hAe]
  clear hAe
  have hA := h.keep hw
  obtain ⟨vo, vn, vv, hB, -⟩ := hA.mem
  have e0 : ∀ x : Cls A, x.val.cell? ⟨b, 0, none⟩ = some (.int .i64 (R.n : Int)) := cls_cell (hB.at (i := 0) rfl) hB.lt
  have e1 : ∀ x : Cls A, x.val.cell? ⟨b, 1, none⟩ = some (.int .i64 R.b.n) := cls_cell (hB.at (i := 1) rfl) hB.lt
  have e2 : ∀ x : Cls A, x.val.cell? ⟨b, 2, none⟩ = some (.int .i64 R.b.nd) := cls_cell (hB.at (i := 2) rfl) hB.lt
  have e3 : ∀ x : Cls A, x.val.cell? ⟨b, 3, none⟩ = some (.int .i64 R.b.lf) := cls_cell (hB.at (i := 3) rfl) hB.lt
  have x0 : ∀ y : Cls A, y.val.cell? ⟨w.heap.size, 0, none⟩ = some (.int .i64 x.n) := cls_cell (hX.at (i := 0) rfl) hX.lt
  have x1 : ∀ y : Cls A, y.val.cell? ⟨w.heap.size, 1, none⟩ = some (.int .i64 x.nd) := cls_cell (hX.at (i := 1) rfl) hX.lt
  have x2 : ∀ y : Cls A, y.val.cell? ⟨w.heap.size, 2, none⟩ = some (.int .i64 x.lf) := cls_cell (hX.at (i := 2) rfl) hX.lt
  have HC : Hid (∀ y : Cls A, Calls Try.prog 33 #[rptr b, .int .i64 k, bV x] y.val fun e w' => e = .returned (.bool false) ∧ Below y.val.heap.size y.val w') := fun y => by rw [← hd]; exact hears_any R b k x y.val (e0 y) (e1 y) (e2 y) (e3 y)
  have HZ := cls_some A
  clear hB
  refine wp_region_below (by kernel_rfl) (by kernel_rfl) ?_
  repeat (go_big_quiet_step (first
    | (go_at_call 33; exact calls_below (HC.out _))))
  refine wpQuiet_nil ?_
  rintro _ ⟨y, rfl⟩
  obtain ⟨W2, hb⟩ := y
  dsimp only
  clear e0 e1 e2 e3 x0 x1 x2 HC HZ
  go_wp2_with fail
  go_ret
  exact ⟨rfl, ab_trans hw hb⟩
end Go.Proofs.Ytpcejajidhfmpaa
