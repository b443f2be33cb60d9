/-
  Wide numbers are a group under sums: estuarylaw01.FloorGroup returns true for every input; no condition.
-/
import Derived.Test.YtahpnkdofnnolaaWalk4
import Derived.Test.YtahpnkdofnnolaaRegion
import Derived.ProofKit
import Derived.OpenShut
import Derived.ChangeOld
import Derived.Below
import Derived.Lib.SmallJoins
namespace Go.Proofs.Ytahpnkdofnnolaa.floorGroup
open Go.ChangeShapes Go.WideShapes Go.ChangeAt Go.RowKit Go.Joins
set_option linter.unusedVariables false

attribute [local go_sem] ok_fold

theorem sum_l (x y : Int) : wh (wv (wh x) (wl x) + y) = wh (x + y) ∧ wl (wv (wh x) (wl x) + y) = wl (x + y) := by
  obtain ⟨k, h⟩ := wv_back x
  rw [h, show x + 340282366920938463463374607431768211456 * k + y = x + y + 340282366920938463463374607431768211456 * k by omega]
  exact wh_congr _ _
theorem sum_r (x y : Int) : wh (y + wv (wh x) (wl x)) = wh (y + x) ∧ wl (y + wv (wh x) (wl x)) = wl (y + x) := by
  have := sum_l x y; rw [Int.add_comm y, Int.add_comm y]; exact this
theorem neg_w (x : Int) : wh (- wv (wh x) (wl x)) = wh (- x) ∧ wl (- wv (wh x) (wl x)) = wl (- x) := by
  obtain ⟨k, h⟩ := wv_back x
  rw [h, show - (x + 340282366920938463463374607431768211456 * k) = - x + 340282366920938463463374607431768211456 * (- k) by omega]
  exact wh_congr _ _
/-- Three boxes of two cells each, in a world in which nothing of them has turned. -/
theorem boxes3 {w w2 : World} {a0 a1 b0 b1 c0 c1 : Value} {T : TypeId} (hb : Below (((w.alloc (.cells #[a0, a1] T)).alloc (.cells #[b0, b1] T)).alloc (.cells #[c0, c1] T)).heap.size (((w.alloc (.cells #[a0, a1] T)).alloc (.cells #[b0, b1] T)).alloc (.cells #[c0, c1] T)) w2) :
    w2.cell? ⟨w.heap.size, 0, none⟩ = some a0 ∧ w2.cell? ⟨w.heap.size, 1, none⟩ = some a1 ∧ w2.cell? ⟨w.heap.size + 1, 0, none⟩ = some b0 ∧ w2.cell? ⟨w.heap.size + 1, 1, none⟩ = some b1 ∧
    w2.cell? ⟨w.heap.size + 1 + 1, 0, none⟩ = some c0 ∧ w2.cell? ⟨w.heap.size + 1 + 1, 1, none⟩ = some c1 ∧ w.heap.size + 1 + 1 < w2.heap.size :=
  ⟨(hb.cell (p := ⟨w.heap.size, 0, none⟩) (by simp; omega)).trans (by simp [go_sem]), (hb.cell (p := ⟨w.heap.size, 1, none⟩) (by simp; omega)).trans (by simp [go_sem]),
   (hb.cell (p := ⟨w.heap.size + 1, 0, none⟩) (by simp)).trans (by simp [go_sem]), (hb.cell (p := ⟨w.heap.size + 1, 1, none⟩) (by simp)).trans (by simp [go_sem]),
   (hb.cell (p := ⟨w.heap.size + 1 + 1, 0, none⟩) (by simp)).trans (by simp [go_sem]), (hb.cell (p := ⟨w.heap.size + 1 + 1, 1, none⟩) (by simp)).trans (by simp [go_sem]),
   by have := hb.size; simp at this; omega⟩
theorem old_cell {W : World} {o : Obj} {b i : Nat} {v : Value} (h : W.cell? ⟨b, i, none⟩ = some v) (hb : b < W.heap.size) : (W.alloc o).cell? ⟨b, i, none⟩ = some v := by
  rw [((Below.refl W.heap.size W).alloc (Nat.le_refl _) o).cell (p := ⟨b, i, none⟩) hb]; exact h

set_option maxHeartbeats 1000000 in
theorem walk (ah : Int) (bah : -9223372036854775808 ≤ ah ∧ ah ≤ 9223372036854775807) (al : Int) (bal : 0 ≤ al ∧ al ≤ 18446744073709551615)
    (bh : Int) (bbh : -9223372036854775808 ≤ bh ∧ bh ≤ 9223372036854775807) (bl : Int) (bbl : 0 ≤ bl ∧ bl ≤ 18446744073709551615)
    (ch : Int) (bch : -9223372036854775808 ≤ ch ∧ ch ≤ 9223372036854775807) (cl : Int) (bcl : 0 ≤ cl ∧ cl ≤ 18446744073709551615) (w : World) :
    Calls Try.prog 7 #[.agg #[.int .i64 ah, .int .u64 al], .agg #[.int .i64 bh, .int .u64 bl], .agg #[.int .i64 ch, .int .u64 cl]] w fun e w' => e = .returned (.bool true) ∧ Below w.heap.size w w' := by
  go_enter Try.func7, Try.ntmps7
  go_wp2_with fail
  refine (alive_any _).mono ?_
  rintro e w1 ⟨rfl, hb⟩
  go_wp2_with fail
  refine (of_zero _).mono ?_
  rintro e w2 ⟨rfl, hb2⟩
  obtain ⟨c0, c1, c2, c3, c4, c5, hz⟩ := boxes3 (ab_trans hb hb2)
  have hb3 : Below w.heap.size w w2 := ab_trans (ab_trans (ab_alloc (ab_alloc (ab_alloc (Below.refl _ _) _) _) _) hb) hb2
  go_wp2_with fail
  have d0 := cls_cell (W := w2.alloc (.cells #[.int .i64 0, .int .u64 0] 34)) (old_cell c0 (by omega)) (by simp; omega)
  have d1 := cls_cell (W := w2.alloc (.cells #[.int .i64 0, .int .u64 0] 34)) (old_cell c1 (by omega)) (by simp; omega)
  have d2 := cls_cell (W := w2.alloc (.cells #[.int .i64 0, .int .u64 0] 34)) (old_cell c2 (by omega)) (by simp; omega)
  have d3 := cls_cell (W := w2.alloc (.cells #[.int .i64 0, .int .u64 0] 34)) (old_cell c3 (by omega)) (by simp; omega)
  have d4 := cls_cell (W := w2.alloc (.cells #[.int .i64 0, .int .u64 0] 34)) (old_cell c4 (by omega)) (by simp; omega)
  have d5 := cls_cell (W := w2.alloc (.cells #[.int .i64 0, .int .u64 0] 34)) (old_cell c5 (by omega)) (by simp; omega)
  have d6 := cls_cell (W := w2.alloc (.cells #[.int .i64 0, .int .u64 0] 34)) (b := w2.heap.size) (o := 0) (v := .int .i64 0) (by simp [go_sem]) (by simp)
  have d7 := cls_cell (W := w2.alloc (.cells #[.int .i64 0, .int .u64 0] 34)) (b := w2.heap.size) (o := 1) (v := .int .u64 0) (by simp [go_sem]) (by simp)
  clear c0 c1 c2 c3 c4 c5 hb2 hb hz
  obtain ⟨s1, s2⟩ := sum_l (wv ah al + wv bh bl) (wv ch cl)
  obtain ⟨s3, s4⟩ := sum_r (wv bh bl + wv ch cl) (wv ah al)
  rw [← Int.add_assoc] at s3 s4
  have s5 : wh (wv bh bl + wv ah al) = wh (wv ah al + wv bh bl) := by rw [Int.add_comm]
  have s6 : wl (wv bh bl + wv ah al) = wl (wv ah al + wv bh bl) := by rw [Int.add_comm]
  obtain ⟨z1, z2⟩ := wh_wv ah al bah.1 bah.2 bal.1 bal.2
  have s7 : wh (wv ah al + wv 0 0) = ah := by rw [show wv 0 0 = 0 from rfl, Int.add_zero]; exact z1
  have s8 : wl (wv ah al + wv 0 0) = al := by rw [show wv 0 0 = 0 from rfl, Int.add_zero]; exact z2
  obtain ⟨t1, t2⟩ := sum_r (- wv ah al) (wv ah al)
  rw [show wv ah al + - wv ah al = 0 by omega] at t1 t2
  have s9 : wh (wv ah al + wv (wh (- wv ah al)) (wl (- wv ah al))) = 0 := t1
  have s10 : wl (wv ah al + wv (wh (- wv ah al)) (wl (- wv ah al))) = 0 := t2
  obtain ⟨u1, u2⟩ := neg_w (- wv ah al)
  rw [Int.neg_neg, z1] at u1
  rw [Int.neg_neg, z2] at u2
  clear z1 z2 t1 t2
  have ne := cls_some (w2.alloc (.cells #[.int .i64 0, .int .u64 0] 34))
  refine wp_region_below (by kernel_rfl) (by kernel_rfl) ?_
  repeat (go_big_quiet_step (first
    | (go_at_call 18; exact calls_below (add_any _ _ _ _ _ (by first | omega | exact (wh_bd _).1) (by first | omega | exact (wh_bd _).2) (by first | omega | exact (wl_bd _).1) (by first | omega | exact (wl_bd _).2) (by first | omega | exact (wh_bd _).1) (by first | omega | exact (wh_bd _).2) (by first | omega | exact (wl_bd _).1) (by first | omega | exact (wl_bd _).2)))
    | (go_at_call 20; exact calls_below (neg_any _ _ _ (by first | omega | exact (wh_bd _).1) (by first | omega | exact (wh_bd _).2) (by first | omega | exact (wl_bd _).1) (by first | omega | exact (wl_bd _).2)))))
  refine wpQuiet_nil ?_
  rintro _ ⟨x, rfl⟩
  go_wp2_with fail
  go_ret
  exact ⟨rfl, ab_trans (ab_alloc hb3 _) x.prop⟩

theorem own : ownKnob Try.prog.godebug = none := by kernel_rfl
theorem laidOut : laidOutB Try.prog = true := by kernel_rfl

set_option maxRecDepth 100000 in
theorem lifted (os : Os) (started : os.Started) (H : Type) (enc : TypeId × Value → H) :
    ReturnsInHanded {} Try.checked os 7 .any (Rows.floorGroupSpec.pre6 enc Try.prog Try.f7 Rows.floorGroupRow.domain false) (Rows.floorGroupSpec.post enc Try.prog Try.f7 false true false false) := by
  refine returnsInHanded_of_change (C := Try.checked) own started (by kernel_rfl) Try.func7
    (ChangeSpec.witness6 (enc := enc) (C := Try.checked) false ⟨#[], #[.agg #[.int .i64 0, .int .u64 0], .agg #[.int .i64 0, .int .u64 0], .agg #[.int .i64 0, .int .u64 0]], []⟩ 8 (by kernel_rfl) (by kernel_rfl) (by kernel_rfl) (by kernel_rfl)) ?_
  intro W base args ds gs before hval0 hW hcnd _
  have hval : ∀ (j : Nat) t v, Try.f7.params[j]? = some t → args[j]? = some v → Value.okWide Try.prog W .any base t v := hval0
  have hW' := hW
  obtain ⟨p, q, hA0, hV, rfl, hfz, hnd⟩ := hW
  have hA : DataW.TrodAll enc Try.prog W 0 (fun _ => true) true Try.f7.params.toList args.toList ds p := hA0
  rw [Try.params7] at hA hval
  obtain ⟨v0, vs0, d0, ds0, p0, q0, hargs, rfl, rfl, h0, r0⟩ := trodAll_cons hA
  obtain ⟨v1, vs1, d1, ds1, p1, q1, rfl, rfl, rfl, h1, r1⟩ := trodAll_cons r0
  obtain ⟨v2, vs2, d2, ds2, p2, q2, rfl, rfl, rfl, h2, r2⟩ := trodAll_cons r1
  obtain ⟨rfl, rfl, rfl⟩ := trodAll_nil r2
  obtain rfl : args = #[v0, v1, v2] := by cases args; simp_all
  obtain ⟨rfl, rfl⟩ := trodVars_none hV
  have k0 := h0
  have lt0 : ∀ x ∈ p0, x.block < W.heap.size := by obtain ⟨m, hm⟩ := k0; exact DataW.trod_lt m _ _ _ hm
  have k1 := h1
  have lt1 : ∀ x ∈ p1, x.block < W.heap.size := by obtain ⟨m, hm⟩ := k1; exact DataW.trod_lt m _ _ _ hm
  have k2 := h2
  have lt2 : ∀ x ∈ p2, x.block < W.heap.size := by obtain ⟨m, hm⟩ := k2; exact DataW.trod_lt m _ _ _ hm
  obtain ⟨c0_0, c0_1, y0_0, y0_1, m0, rfl, rfl, rfl, hy0_0, hy0_1⟩ := open_agg2 Try.underlying34 (by kernel_rfl) (by kernel_rfl) (hval 0 34 v0 rfl rfl) h0
  obtain ⟨a0_0, e0_0, rfl, w0_0⟩ := DataW.trod_int Try.underlying3 hy0_0
  simp at e0_0; subst e0_0
  obtain ⟨a0_1, e0_1, rfl, w0_1⟩ := DataW.trod_int Try.underlying32 hy0_1
  simp at e0_1; subst e0_1
  obtain ⟨c1_0, c1_1, y1_0, y1_1, m1, rfl, rfl, rfl, hy1_0, hy1_1⟩ := open_agg2 Try.underlying34 (by kernel_rfl) (by kernel_rfl) (hval 1 34 v1 rfl rfl) h1
  obtain ⟨a1_0, e1_0, rfl, w1_0⟩ := DataW.trod_int Try.underlying3 hy1_0
  simp at e1_0; subst e1_0
  obtain ⟨a1_1, e1_1, rfl, w1_1⟩ := DataW.trod_int Try.underlying32 hy1_1
  simp at e1_1; subst e1_1
  obtain ⟨c2_0, c2_1, y2_0, y2_1, m2, rfl, rfl, rfl, hy2_0, hy2_1⟩ := open_agg2 Try.underlying34 (by kernel_rfl) (by kernel_rfl) (hval 2 34 v2 rfl rfl) h2
  obtain ⟨a2_0, e2_0, rfl, w2_0⟩ := DataW.trod_int Try.underlying3 hy2_0
  simp at e2_0; subst e2_0
  obtain ⟨a2_1, e2_1, rfl, w2_1⟩ := DataW.trod_int Try.underlying32 hy2_1
  simp at e2_1; subst e2_1
  clear hA0 hval0
  refine (walk a0_0 (bounds_i64 w0_0) a0_1 (bounds_u64 w0_1) a1_0 (bounds_i64 w1_0) a1_1 (bounds_u64 w1_1) a2_0 (bounds_i64 w2_0) a2_1 (bounds_u64 w2_1) W).mono fun e W' ⟨he, bel⟩ => ?_
  subst he
  exact ⟨_, rfl, _, _, _, [], _, [], hW', trodAll_mk1 (shut_bool Try.underlying4 _), (trodAll_cons_mk (Below.trod laidOut (by kernel_rfl) (of_decide_eq_true (by kernel_rfl)) k0 bel lt0) (trodAll_cons_mk (Below.trod laidOut (by kernel_rfl) (of_decide_eq_true (by kernel_rfl)) k1 bel lt1) (trodAll_cons_mk (Below.trod laidOut (by kernel_rfl) (of_decide_eq_true (by kernel_rfl)) k2 bel lt2) trodAll_mk0))), rfl, bel.frame _, fun h => by cases h⟩

theorem over : Rows.floorGroupRow.holds Try.pinned (OpenSpec.ofChange Rows.floorGroupSpec) :=
  OpenClaim.holds_of_wide 7 Try.f7 rfl rfl rfl rfl rfl rfl rfl ⟨rfl, rfl, rfl, rfl, rfl⟩ rfl rfl rfl rfl rfl (by kernel_rfl) Try.func7 (by kernel_rfl)
    (of_decide_eq_true (by kernel_rfl)) (by unfold Func.isWrapper; first | (rw [if_pos (by decide +kernel)]; kernel_rfl) | (rw [if_neg (by decide +kernel)]; exact ⟨rfl, rfl⟩))
    (fun os started H enc _ => lifted os started H enc)

theorem proved : Rows.FloorGroupSaid := over
end Go.Proofs.Ytahpnkdofnnolaa.floorGroup
namespace Go.Proofs.Ytahpnkdofnnolaa
theorem floorGroup_holds : Rows.FloorGroupSaid := floorGroup.proved
#print axioms floorGroup_holds
end Go.Proofs.Ytahpnkdofnnolaa
