/-
  Numbers keep their sums and their order as wide numbers: estuarylaw01.FloorKeeps returns true for every input; no condition.
-/
import Derived.Test.YtahpnkdofnnolaaWalk4
import Derived.Test.YtahpnkdofnnolaaRegion
import Derived.ProofKit
import Derived.OpenShut
import Derived.ChangeOld
import Derived.Below
namespace Go.Proofs.Ytahpnkdofnnolaa.floorKeeps
open Go.ChangeShapes Go.WideShapes Go.ChangeAt Go.RowKit
set_option linter.unusedVariables false
attribute [local go_sem] ok_fold

set_option maxHeartbeats 400000 in
theorem rof_any (n : Int) (w : World) (h0 : -9223372036854775808 ≤ n) (h1 : n ≤ 9223372036854775807) :
    Calls Try.prog 25 #[.int .i64 n] w fun e w' => e = .returned (.agg #[.int .i64 (wh n), .int .u64 (wl n)]) ∧ Below w.heap.size w w' := by
  have HF : Hid (IntKind.u64.wrap n = wl n) := by
    show _ = _; rw [IntKind.wrap_u64]; rfl
  by_cases c : n < 0
  · have HG : Hid (-1 = wh n) := by show _ = _; unfold wh; omega
    go_enter Try.func25, Try.ntmps25
    go_wp2_with fail
    exact bodyPost_ret (v := .agg #[.int .i64 (-1), .int .u64 (IntKind.u64.wrap n)]) (by simp [results, Try.results25, go_sem]) rfl ⟨by rw [HF.out, ← HG.out], (Below.refl _ _).alloc (Nat.le_refl _) _⟩
  · have HG : Hid (0 = wh n) := by show _ = _; unfold wh; omega
    go_enter Try.func25, Try.ntmps25
    go_wp2_with fail
    exact bodyPost_ret (v := .agg #[.int .i64 0, .int .u64 n]) (by simp [results, Try.results25, go_sem]) rfl ⟨by rw [← HG.out, show wl n = n by unfold wl; omega], (Below.refl _ _).alloc (Nat.le_refl _) _⟩

theorem wv_int (n : Int) (h : -9223372036854775808 ≤ n ∧ n ≤ 9223372036854775807) : wv (wh n) (wl n) = n := wv_same n (by omega) (by omega)

set_option maxHeartbeats 400000 in
theorem keeps_in (a : Int) (ba : -9223372036854775808 ≤ a ∧ a ≤ 9223372036854775807) (b : Int) (bb : -9223372036854775808 ≤ b ∧ b ≤ 9223372036854775807) (w : World) (hs : -9223372036854775808 ≤ a + b ∧ a + b ≤ 9223372036854775807) :
    Calls Try.prog 8 #[.int .i64 a, .int .i64 b] w fun e w' => e = .returned (.bool true) ∧ Below w.heap.size w w' := by
  have ea := wv_int a ba
  have eb := wv_int b bb
  have e1 : (decide (a < b) != decide (a < b)) = false := by simp
  have e2 : wrap64 (wl (a + b)) = a + b := by unfold wrap64 wl; omega
  go_enter Try.func8, Try.ntmps8
  go_wp2_with fail
  refine (alive_any _).mono ?_
  rintro e w1 ⟨rfl, hb1⟩
  go_wp2_with fail
  refine (of_any a _ ba.1 ba.2).mono ?_
  rintro e w2 ⟨rfl, hb2⟩
  go_wp2_with fail
  refine (rof_any a _ ba.1 ba.2).mono ?_
  rintro e w3 ⟨rfl, hb3⟩
  go_wp2_with fail
  refine (of_any a _ ba.1 ba.2).mono ?_
  rintro e w4 ⟨rfl, hb4⟩
  go_wp2_with fail
  refine (of_any b _ bb.1 bb.2).mono ?_
  rintro e w5 ⟨rfl, hb5⟩
  go_wp2_with fail
  refine (less_any _ _ _ _ _ (wh_bd _).1 (wh_bd _).2 (wl_bd _).1 (wl_bd _).2 (wh_bd _).1 (wh_bd _).2 (wl_bd _).1 (wl_bd _).2).mono ?_
  rintro e w6 ⟨rfl, hb6⟩
  rw [ea, eb]
  go_wp2_with fail
  refine (of_any a _ ba.1 ba.2).mono ?_
  rintro e w7 ⟨rfl, hb7⟩
  go_wp2_with fail
  refine (of_any b _ bb.1 bb.2).mono ?_
  rintro e w8 ⟨rfl, hb8⟩
  go_wp2_with fail
  refine (add_any _ _ _ _ _ (wh_bd _).1 (wh_bd _).2 (wl_bd _).1 (wl_bd _).2 (wh_bd _).1 (wh_bd _).2 (wl_bd _).1 (wl_bd _).2).mono ?_
  rintro e w9 ⟨rfl, hb9⟩
  rw [ea, eb]
  go_wp2_with fail
  all_goals
    have hb : Below w.heap.size w w9 := ab_trans (ab_trans (ab_trans (ab_trans (ab_trans (ab_trans (ab_trans (ab_trans hb1 hb2) hb3) hb4) hb5) hb6) hb7) hb8) hb9
    clear hb1 hb2 hb3 hb4 hb5 hb6 hb7 hb8 hb9
    have ne := cls_some (w9.alloc (.cells #[.int .i64 (wh (a + b)), .int .u64 (wl (a + b))] 34))
    have d0 := cls_cell (W := w9.alloc (.cells #[.int .i64 (wh (a + b)), .int .u64 (wl (a + b))] 34)) (b := w9.heap.size) (o := 0) (v := .int .i64 (wh (a + b))) (by simp [go_sem]) (by simp)
    have d1 := cls_cell (W := w9.alloc (.cells #[.int .i64 (wh (a + b)), .int .u64 (wl (a + b))] 34)) (b := w9.heap.size) (o := 1) (v := .int .u64 (wl (a + b))) (by simp [go_sem]) (by simp)
    refine wp_region_below (by kernel_rfl) (by kernel_rfl) ?_
    repeat (go_big_quiet_step ((go_at_call 24; exact calls_below (of_any _ _ (by omega) (by omega)))))
    refine wpQuiet_nil ?_
    rintro _ ⟨x, rfl⟩
    go_wp2_with fail
    go_ret
    exact ⟨ret_bool (by first | rfl | (simp; omega)), ab_trans (ab_alloc hb _) x.prop⟩

set_option maxHeartbeats 400000 in
theorem keeps_out (a : Int) (ba : -9223372036854775808 ≤ a ∧ a ≤ 9223372036854775807) (b : Int) (bb : -9223372036854775808 ≤ b ∧ b ≤ 9223372036854775807) (w : World) (s : Int) (hs : (0 < a ∧ 0 < b ∧ 9223372036854775807 < a + b ∧ s = a + b - 18446744073709551616) ∨ (a < 0 ∧ b < 0 ∧ a + b < -9223372036854775808 ∧ s = a + b + 18446744073709551616)) :
    Calls Try.prog 8 #[.int .i64 a, .int .i64 b] w fun e w' => e = .returned (.bool true) ∧ Below w.heap.size w w' := by
  have ea := wv_int a ba
  have eb := wv_int b bb
  have e1 : (decide (a < b) != decide (a < b)) = false := by simp
  have e2 : wrap64 (wl (a + b)) = s := by unfold wrap64 wl; omega
  have e3 : wrap64 (a + b) = s := by unfold wrap64; omega
  have e4 : ¬ wh (a + b) = wh s := by unfold wh; omega
  have e5 : -9223372036854775808 ≤ s ∧ s ≤ 9223372036854775807 := by omega
  have e6 : (0 < a ∧ 0 < b ∧ s < 0) ∨ (a < 0 ∧ b < 0 ∧ 0 ≤ s) := by omega
  clear hs
  rcases e6 with ⟨e6, e7, e8⟩ | ⟨e6, e7, e8⟩
  all_goals
    go_enter Try.func8, Try.ntmps8
    go_wp2_with fail
    refine (alive_any _).mono ?_
    rintro e w1 ⟨rfl, hb1⟩
    go_wp2_with fail
    refine (of_any a _ ba.1 ba.2).mono ?_
    rintro e w2 ⟨rfl, hb2⟩
    go_wp2_with fail
    refine (rof_any a _ ba.1 ba.2).mono ?_
    rintro e w3 ⟨rfl, hb3⟩
    go_wp2_with fail
    refine (of_any a _ ba.1 ba.2).mono ?_
    rintro e w4 ⟨rfl, hb4⟩
    go_wp2_with fail
    refine (of_any b _ bb.1 bb.2).mono ?_
    rintro e w5 ⟨rfl, hb5⟩
    go_wp2_with fail
    refine (less_any _ _ _ _ _ (wh_bd _).1 (wh_bd _).2 (wl_bd _).1 (wl_bd _).2 (wh_bd _).1 (wh_bd _).2 (wl_bd _).1 (wl_bd _).2).mono ?_
    rintro e w6 ⟨rfl, hb6⟩
    rw [ea, eb]
    go_wp2_with fail
    refine (of_any a _ ba.1 ba.2).mono ?_
    rintro e w7 ⟨rfl, hb7⟩
    go_wp2_with fail
    refine (of_any b _ bb.1 bb.2).mono ?_
    rintro e w8 ⟨rfl, hb8⟩
    go_wp2_with fail
    refine (add_any _ _ _ _ _ (wh_bd _).1 (wh_bd _).2 (wl_bd _).1 (wl_bd _).2 (wh_bd _).1 (wh_bd _).2 (wl_bd _).1 (wl_bd _).2).mono ?_
    rintro e w9 ⟨rfl, hb9⟩
    rw [ea, eb]
    go_wp2_with fail
    all_goals
      have hb : Below w.heap.size w w9 := ab_trans (ab_trans (ab_trans (ab_trans (ab_trans (ab_trans (ab_trans (ab_trans hb1 hb2) hb3) hb4) hb5) hb6) hb7) hb8) hb9
      clear hb1 hb2 hb3 hb4 hb5 hb6 hb7 hb8 hb9
      have ne := cls_some (w9.alloc (.cells #[.int .i64 (wh (a + b)), .int .u64 (wl (a + b))] 34))
      have d0 := cls_cell (W := w9.alloc (.cells #[.int .i64 (wh (a + b)), .int .u64 (wl (a + b))] 34)) (b := w9.heap.size) (o := 0) (v := .int .i64 (wh (a + b))) (by simp [go_sem]) (by simp)
      have d1 := cls_cell (W := w9.alloc (.cells #[.int .i64 (wh (a + b)), .int .u64 (wl (a + b))] 34)) (b := w9.heap.size) (o := 1) (v := .int .u64 (wl (a + b))) (by simp [go_sem]) (by simp)
      refine wp_region_below (by kernel_rfl) (by kernel_rfl) ?_
      repeat (go_big_quiet_step ((go_at_call 24; exact calls_below (of_any _ _ (by omega) (by omega)))))
      refine wpQuiet_nil ?_
      rintro _ ⟨x, rfl⟩
      go_wp2_with fail
      go_ret
      exact ⟨ret_bool (by first | rfl | (simp; omega)), ab_trans (ab_alloc hb _) x.prop⟩

theorem walk (a : Int) (ba : -9223372036854775808 ≤ a ∧ a ≤ 9223372036854775807) (b : Int) (bb : -9223372036854775808 ≤ b ∧ b ≤ 9223372036854775807) (w : World) :
    Calls Try.prog 8 #[.int .i64 a, .int .i64 b] w fun e w' => e = .returned (.bool true) ∧ Below w.heap.size w w' := by
  by_cases c : -9223372036854775808 ≤ a + b ∧ a + b ≤ 9223372036854775807
  · exact keeps_in a ba b bb w c
  · by_cases d : 0 < a
    · exact keeps_out a ba b bb w (a + b - 18446744073709551616) (.inl (by omega))
    · exact keeps_out a ba b bb w (a + b + 18446744073709551616) (.inr (by omega))

theorem own : ownKnob Try.prog.godebug = none := by kernel_rfl
theorem laidOut : laidOutB Try.prog = true := by kernel_rfl

set_option maxRecDepth 100000 in
theorem lifted (os : Os) (started : os.Started) (H : Type) (enc : TypeId × Value → H) :
    ReturnsInHanded {} Try.checked os 8 .any (Rows.floorKeepsSpec.pre6 enc Try.prog Try.f8 Rows.floorKeepsRow.domain false) (Rows.floorKeepsSpec.post enc Try.prog Try.f8 false true false false) := by
  refine returnsInHanded_of_change (C := Try.checked) own started (by kernel_rfl) Try.func8
    (ChangeSpec.witness6 (enc := enc) (C := Try.checked) false ⟨#[], #[.int .i64 0, .int .i64 0], []⟩ 8 (by kernel_rfl) (by kernel_rfl) (by kernel_rfl) (by kernel_rfl)) ?_
  intro W base args ds gs before hval0 hW hcnd _
  have hval : ∀ (j : Nat) t v, Try.f8.params[j]? = some t → args[j]? = some v → Value.okWide Try.prog W .any base t v := hval0
  have hW' := hW
  obtain ⟨p, q, hA0, hV, rfl, hfz, hnd⟩ := hW
  have hA : DataW.TrodAll enc Try.prog W 0 (fun _ => true) true Try.f8.params.toList args.toList ds p := hA0
  rw [Try.params8] at hA hval
  obtain ⟨v0, vs0, d0, ds0, p0, q0, hargs, rfl, rfl, h0, r0⟩ := trodAll_cons hA
  obtain ⟨v1, vs1, d1, ds1, p1, q1, rfl, rfl, rfl, h1, r1⟩ := trodAll_cons r0
  obtain ⟨rfl, rfl, rfl⟩ := trodAll_nil r1
  obtain rfl : args = #[v0, v1] := by cases args; simp_all
  obtain ⟨rfl, rfl⟩ := trodVars_none hV
  have k0 := h0
  have lt0 : ∀ x ∈ p0, x.block < W.heap.size := by obtain ⟨m, hm⟩ := k0; exact DataW.trod_lt m _ _ _ hm
  have k1 := h1
  have lt1 : ∀ x ∈ p1, x.block < W.heap.size := by obtain ⟨m, hm⟩ := k1; exact DataW.trod_lt m _ _ _ hm
  obtain ⟨a0, rfl, rfl, rfl, w0⟩ := open_int Try.underlying3 (hval 0 3 v0 rfl rfl) h0
  obtain ⟨a1, rfl, rfl, rfl, w1⟩ := open_int Try.underlying3 (hval 1 3 v1 rfl rfl) h1
  clear hA0 hval0
  refine (walk a0 (bounds_i64 w0) a1 (bounds_i64 w1) W).mono fun e W' ⟨he, bel⟩ => ?_
  subst he
  exact ⟨_, rfl, _, _, _, [], _, [], hW', trodAll_mk1 (shut_bool Try.underlying4 _), (trodAll_cons_mk (Below.trod laidOut (by kernel_rfl) (of_decide_eq_true (by kernel_rfl)) k0 bel lt0) (trodAll_cons_mk (Below.trod laidOut (by kernel_rfl) (of_decide_eq_true (by kernel_rfl)) k1 bel lt1) trodAll_mk0)), rfl, bel.frame _, fun h => by cases h⟩

theorem over : Rows.floorKeepsRow.holds Try.pinned (OpenSpec.ofChange Rows.floorKeepsSpec) :=
  OpenClaim.holds_of_wide 8 Try.f8 rfl rfl rfl rfl rfl rfl rfl ⟨rfl, rfl, rfl, rfl, rfl⟩ rfl rfl rfl rfl rfl (by kernel_rfl) Try.func8 (by kernel_rfl)
    (of_decide_eq_true (by kernel_rfl)) (by unfold Func.isWrapper; first | (rw [if_pos (by decide +kernel)]; kernel_rfl) | (rw [if_neg (by decide +kernel)]; exact ⟨rfl, rfl⟩))
    (fun os started H enc _ => lifted os started H enc)

theorem proved : Rows.FloorKeepsSaid := over
end Go.Proofs.Ytahpnkdofnnolaa.floorKeeps
namespace Go.Proofs.Ytahpnkdofnnolaa
theorem floorKeeps_holds : Rows.FloorKeepsSaid := floorKeeps.proved
#print axioms floorKeeps_holds
end Go.Proofs.Ytahpnkdofnnolaa
