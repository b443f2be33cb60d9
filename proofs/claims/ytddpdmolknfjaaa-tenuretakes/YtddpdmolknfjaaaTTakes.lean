/-
  Which values are leases: estuarylaw13.TenureTakes returns true for every input; no condition.
-/
import Derived.Test.YtddpdmolknfjaaaTnE
import Derived.ProofKit
import Derived.OpenShut
import Derived.ChangeOld
import Derived.Below
namespace Go.Proofs.Ytddpdmolknfjaaa.tenureTakes
open Go.ChangeShapes Go.WideShapes Go.ChangeAt Go.RowKit Go.Joins
set_option linter.unusedVariables false

theorem tk_good {e h l b : Int} (c : 1 ≤ e ∧ 0 ≤ h ∧ 0 ≤ l ∧ 0 ≤ b) : isL (numL ⟨e, h, l, b⟩) = true ∧ tkL (numL ⟨e, h, l, b⟩) = ⟨e, h, l, b⟩ := isL_yes c
theorem tk_bad {e h l b : Int} (c : ¬ (1 ≤ e ∧ 0 ≤ h ∧ 0 ≤ l ∧ 0 ≤ b)) : isL (numL ⟨e, h, l, b⟩) = false ∧ tkL (numL ⟨e, h, l, b⟩) = zL := isL_not c
set_option maxHeartbeats 8000000 in
set_option maxRecDepth 100000 in
theorem takes_walk (v : Value) (m : List Int) (e h l b : Int) (w : World) (hv : Is w v m) :
    Calls Try.prog 4 #[v, leV ⟨e, h, l, b⟩] w fun r w' => r = .returned (.bool true) ∧ Below w.heap.size w w' := by
  obtain ⟨q, c, ee⟩ := hv.form
  subst ee
  obtain ⟨n, hn⟩ : ∃ n, m.length = n := ⟨_, rfl⟩
  rw [hn] at hv ⊢
  obtain ⟨A, hAe, hX, hw⟩ := blk1 w (leC ⟨e, h, l, b⟩) 29
  go_enter Try.func4, Try.ntmps4
  go_upto_region 1 with fail
  clear hAe
  go_wp2_with fail
  refine (alive13_any _).mono ?_
  rintro r W1 ⟨rfl, b1⟩
  have hw1 := ab_trans hw b1
  by_cases cn : n ≤ 500
  rotate_left
  · have cn2 : (500 : Int) < (n : Int) := by omega
    go_wp2_with fail
    go_ret
    exact ⟨rfl, hw1⟩
  have cn2 : ¬ (500 : Int) < (n : Int) := by omega
  have hX1 := hX.keep b1
  clear b1 hX hw
  go_upto_region 5 with fail
  clear cn2
  go_wp2_with fail
  refine (ttake_any _ m _ (hv.keep hw1)).mono ?_
  rintro r W2 ⟨rfl, b2⟩
  obtain ⟨x, hx⟩ : ∃ x, tkL m = x := ⟨_, rfl⟩
  obtain ⟨t, ht⟩ : ∃ t, isL m = t := ⟨_, rfl⟩
  have HX : Hid (tkL m = x ∧ isL m = t) := ⟨hx, ht⟩
  rw [hx, ht]
  have hw2 := ab_trans hw1 b2
  have hX2 := hX1.keep b2
  obtain ⟨B, hBe, hL, hwL⟩ := blk1 W2 (leC zL) 29
  go_upto_region 6 with (refine st_le rfl rfl (k1 := x) hL rfl rfl ?_; intro W3 hL3 C3)
  have b3 : Below W2.heap.size W2 W3 := ab_chg hwL C3 (Nat.le_refl _)
  have hw3 := ab_trans hw2 b3
  have hX3 := hX2.keep b3
  clear hBe hL hwL C3 b3 hX1 hX2 hw1 hw2 b2
  go_wp2_with fail
  refine (rttake_any _ m _ (hv.keep hw3)).mono ?_
  rintro r W4 ⟨rfl, b4⟩
  rw [hx, ht]
  clear hx ht
  have hw4 := ab_trans hw3 b4
  have hX4 := hX3.keep b4
  have hL4 := hL3.keep b4
  obtain ⟨B, hBe, hM, hwM⟩ := blk1 W4 (leC zL) 29
  go_upto_region 7 with (refine st_le rfl rfl (k1 := x) hM rfl rfl ?_; intro W5 hM5 C5)
  have b5 : Below W4.heap.size W4 W5 := ab_chg hwM C5 (Nat.le_refl _)
  have hw5 := ab_trans hw4 b5
  have hX5 := hX4.keep b5
  have hL5 := hL4.keep b5
  clear hBe hM hwM C5 b5 hX3 hX4 hw3 hw4 hL3 hL4 b4
  have x0 : W5.cell? ⟨w.heap.size, 0, none⟩ = some (.int .i64 e) := hX5.at rfl
  have x1 : W5.cell? ⟨w.heap.size, 1, none⟩ = some (.int .i64 h) := hX5.at rfl
  have x2 : W5.cell? ⟨w.heap.size, 2, none⟩ = some (.int .i64 l) := hX5.at rfl
  have x3 : W5.cell? ⟨w.heap.size, 3, none⟩ = some (.int .i64 b) := hX5.at rfl
  go_wp2_with fail
  refine (tnums_any ⟨e, h, l, b⟩ _).mono ?_
  rintro r W6 ⟨g6, rfl, hN, b6⟩
  clear x0 x1 x2 x3
  go_wp2_with fail
  refine (ttake_any _ (numL ⟨e, h, l, b⟩) _ hN.is).mono ?_
  rintro r W7 ⟨rfl, b7⟩
  obtain ⟨y, hy⟩ : ∃ y, tkL (numL ⟨e, h, l, b⟩) = y := ⟨_, rfl⟩
  obtain ⟨u, hu⟩ : ∃ u, isL (numL ⟨e, h, l, b⟩) = u := ⟨_, rfl⟩
  have HY : Hid (tkL (numL ⟨e, h, l, b⟩) = y ∧ isL (numL ⟨e, h, l, b⟩) = u) := ⟨hy, hu⟩
  rw [hy, hu]
  have b67 := ab_trans b6 b7
  have hw7 := ab_trans hw5 b67
  have hX7 := hX5.keep b67
  have hL7 := hL5.keep b67
  have hM7 := hM5.keep b67
  clear hy hu hX5 hL5 hM5 hw5 b6 b7 b67 hN
  obtain ⟨B, hBe, hK, hwK⟩ := blk1 W7 (leC zL) 29
  go_upto_region 8 with (refine st_le rfl rfl (k1 := y) hK rfl rfl ?_; intro W8 hK8 C8)
  have b8 : Below W7.heap.size W7 W8 := ab_chg hwK C8 (Nat.le_refl _)
  have hw8 := ab_trans hw7 b8
  have hX8 := hX7.keep b8
  have hL8 := hL7.keep b8
  have hM8 := hM7.keep b8
  clear hBe hK hwK C8 b8 hX7 hL7 hM7 hw7
  have x0 : W8.cell? ⟨w.heap.size, 0, none⟩ = some (.int .i64 e) := hX8.at rfl
  have x1 : W8.cell? ⟨w.heap.size, 1, none⟩ = some (.int .i64 h) := hX8.at rfl
  have x2 : W8.cell? ⟨w.heap.size, 2, none⟩ = some (.int .i64 l) := hX8.at rfl
  have x3 : W8.cell? ⟨w.heap.size, 3, none⟩ = some (.int .i64 b) := hX8.at rfl
  have l0 : W8.cell? ⟨W2.heap.size, 0, none⟩ = some (.int .i64 x.e) := hL8.at rfl
  have l1 : W8.cell? ⟨W2.heap.size, 1, none⟩ = some (.int .i64 x.h) := hL8.at rfl
  have l2 : W8.cell? ⟨W2.heap.size, 2, none⟩ = some (.int .i64 x.l) := hL8.at rfl
  have l3 : W8.cell? ⟨W2.heap.size, 3, none⟩ = some (.int .i64 x.b) := hL8.at rfl
  have m0 : W8.cell? ⟨W4.heap.size, 0, none⟩ = some (.int .i64 x.e) := hM8.at rfl
  have m1 : W8.cell? ⟨W4.heap.size, 1, none⟩ = some (.int .i64 x.h) := hM8.at rfl
  have m2 : W8.cell? ⟨W4.heap.size, 2, none⟩ = some (.int .i64 x.l) := hM8.at rfl
  have m3 : W8.cell? ⟨W4.heap.size, 3, none⟩ = some (.int .i64 x.b) := hM8.at rfl
  have k0 : W8.cell? ⟨W7.heap.size, 0, none⟩ = some (.int .i64 y.e) := hK8.at rfl
  have k1 : W8.cell? ⟨W7.heap.size, 1, none⟩ = some (.int .i64 y.h) := hK8.at rfl
  have k2 : W8.cell? ⟨W7.heap.size, 2, none⟩ = some (.int .i64 y.l) := hK8.at rfl
  have k3 : W8.cell? ⟨W7.heap.size, 3, none⟩ = some (.int .i64 y.b) := hK8.at rfl
  have E1 := eqLe x
  have E2 := eqLe ⟨e, h, l, b⟩
  clear hX8 hL8 hM8 hK8
  by_cases i1 : 1 ≤ e
  rotate_left
  · obtain ⟨hu, hy⟩ := tk_bad (e := e) (h := h) (l := l) (b := b) (by omega)
    obtain rfl : false = u := hu.symm.trans HY.out.2
    clear hu hy k0 k1 k2 k3
    cases t
    · go_wp2_with fail
      go_ret
      exact ⟨rfl, hw8⟩
    · go_wp2_with fail
      refine (tnums_any x _).mono ?_
      rintro r V1 ⟨g9, rfl, hN9, v1⟩
      go_wp2_with fail
      refine (gints_any _ _ (numL x) m _ hN9.is (hv.keep (ab_trans hw8 v1)) (Nat.le_of_lt (show 4 < 100000 by decide)) (by omega)).mono ?_
      rintro r V2 ⟨rfl, v2⟩
      rw [decide_eq_true (show numL x = m by rw [← HX.out.1]; exact tk_num HX.out.2)]
      go_wp2_with fail
      go_ret
      exact ⟨rfl, ab_trans hw8 (ab_trans v1 v2)⟩
  by_cases i2 : 0 ≤ h
  rotate_left
  · obtain ⟨hu, hy⟩ := tk_bad (e := e) (h := h) (l := l) (b := b) (by omega)
    obtain rfl : false = u := hu.symm.trans HY.out.2
    clear hu hy k0 k1 k2 k3
    cases t
    · go_wp2_with fail
      go_ret
      exact ⟨rfl, hw8⟩
    · go_wp2_with fail
      refine (tnums_any x _).mono ?_
      rintro r V1 ⟨g9, rfl, hN9, v1⟩
      go_wp2_with fail
      refine (gints_any _ _ (numL x) m _ hN9.is (hv.keep (ab_trans hw8 v1)) (Nat.le_of_lt (show 4 < 100000 by decide)) (by omega)).mono ?_
      rintro r V2 ⟨rfl, v2⟩
      rw [decide_eq_true (show numL x = m by rw [← HX.out.1]; exact tk_num HX.out.2)]
      go_wp2_with fail
      go_ret
      exact ⟨rfl, ab_trans hw8 (ab_trans v1 v2)⟩
  by_cases i3 : 0 ≤ l
  rotate_left
  · obtain ⟨hu, hy⟩ := tk_bad (e := e) (h := h) (l := l) (b := b) (by omega)
    obtain rfl : false = u := hu.symm.trans HY.out.2
    clear hu hy k0 k1 k2 k3
    cases t
    · go_wp2_with fail
      go_ret
      exact ⟨rfl, hw8⟩
    · go_wp2_with fail
      refine (tnums_any x _).mono ?_
      rintro r V1 ⟨g9, rfl, hN9, v1⟩
      go_wp2_with fail
      refine (gints_any _ _ (numL x) m _ hN9.is (hv.keep (ab_trans hw8 v1)) (Nat.le_of_lt (show 4 < 100000 by decide)) (by omega)).mono ?_
      rintro r V2 ⟨rfl, v2⟩
      rw [decide_eq_true (show numL x = m by rw [← HX.out.1]; exact tk_num HX.out.2)]
      go_wp2_with fail
      go_ret
      exact ⟨rfl, ab_trans hw8 (ab_trans v1 v2)⟩
  by_cases i4 : 0 ≤ b
  rotate_left
  · obtain ⟨hu, hy⟩ := tk_bad (e := e) (h := h) (l := l) (b := b) (by omega)
    obtain rfl : false = u := hu.symm.trans HY.out.2
    clear hu hy k0 k1 k2 k3
    cases t
    · go_wp2_with fail
      go_ret
      exact ⟨rfl, hw8⟩
    · go_wp2_with fail
      refine (tnums_any x _).mono ?_
      rintro r V1 ⟨g9, rfl, hN9, v1⟩
      go_wp2_with fail
      refine (gints_any _ _ (numL x) m _ hN9.is (hv.keep (ab_trans hw8 v1)) (Nat.le_of_lt (show 4 < 100000 by decide)) (by omega)).mono ?_
      rintro r V2 ⟨rfl, v2⟩
      rw [decide_eq_true (show numL x = m by rw [← HX.out.1]; exact tk_num HX.out.2)]
      go_wp2_with fail
      go_ret
      exact ⟨rfl, ab_trans hw8 (ab_trans v1 v2)⟩
  obtain ⟨hu, hy⟩ := tk_good (e := e) (h := h) (l := l) (b := b) ⟨i1, i2, i3, i4⟩
  obtain rfl : true = u := hu.symm.trans HY.out.2
  obtain rfl : (⟨e, h, l, b⟩ : Le) = y := hy.symm.trans HY.out.1
  clear hu hy
  cases t
  · go_wp2_with fail
    go_ret
    exact ⟨rfl, hw8⟩
  · go_wp2_with fail
    refine (tnums_any x _).mono ?_
    rintro r V1 ⟨g9, rfl, hN9, v1⟩
    go_wp2_with fail
    refine (gints_any _ _ (numL x) m _ hN9.is (hv.keep (ab_trans hw8 v1)) (Nat.le_of_lt (show 4 < 100000 by decide)) (by omega)).mono ?_
    rintro r V2 ⟨rfl, v2⟩
    rw [decide_eq_true (show numL x = m by rw [← HX.out.1]; exact tk_num HX.out.2)]
    go_wp2_with fail
    go_ret
    exact ⟨rfl, ab_trans hw8 (ab_trans v1 v2)⟩
theorem walk {W : World} (v : Value) (m : List Int) (hv : IsZ W v m) (e : Int) (he : -9223372036854775808 ≤ e ∧ e ≤ 9223372036854775807) (h : Int) (hh : -9223372036854775808 ≤ h ∧ h ≤ 9223372036854775807) (l : Int) (hl : -9223372036854775808 ≤ l ∧ l ≤ 9223372036854775807) (b : Int) (hb : -9223372036854775808 ≤ b ∧ b ≤ 9223372036854775807) :
    Calls Try.prog 4 #[v, leV ⟨e, h, l, b⟩] W fun r w' => r = .returned (.bool true) ∧ Below W.heap.size W w' := takes_walk v m e h l b W hv.1
theorem own : ownKnob Try.prog.godebug = none := by kernel_rfl
theorem laidOut : laidOutB Try.prog = true := by kernel_rfl

set_option maxRecDepth 100000 in
theorem lifted (os : Os) (started : os.Started) (H : Type) (enc : TypeId × Value → H) :
    ReturnsInHanded {} Try.checked os 4 .any (Rows.tenureTakesSpec.pre6 enc Try.prog Try.f4 Rows.tenureTakesRow.domain false) (Rows.tenureTakesSpec.post enc Try.prog Try.f4 false true false false) := by
  refine returnsInHanded_of_change_sized (C := Try.checked) own started (by kernel_rfl) Try.func4
    (ChangeSpec.witness6 (enc := enc) (C := Try.checked) false ⟨#[], #[.slice none 0 0, .agg #[.int .i64 0, .int .i64 0, .int .i64 0, .int .i64 0]], []⟩ 8 (by kernel_rfl) (by kernel_rfl) (by kernel_rfl) (by kernel_rfl)) ?_
  intro W base args ds gs before hval0 hW hcnd hsz _
  have hval : ∀ (j : Nat) t v, Try.f4.params[j]? = some t → args[j]? = some v → Value.okWide Try.prog W .any base t v := hval0
  have hW' := hW
  obtain ⟨p, q, hA0, hV, rfl, hfz, hnd⟩ := hW
  have hA : DataW.TrodAll enc Try.prog W 0 (fun _ => true) true Try.f4.params.toList args.toList ds p := hA0
  rw [Try.params4] at hA hval
  obtain ⟨v0, vs0, d0, ds0, p0, q0, hargs, rfl, rfl, h0, r0⟩ := trodAll_cons hA
  obtain ⟨v1, vs1, d1, ds1, p1, q1, rfl, rfl, rfl, h1, r1⟩ := trodAll_cons r0
  obtain ⟨rfl, rfl, rfl⟩ := trodAll_nil r1
  obtain rfl : args = #[v0, v1] := by cases args; simp_all
  obtain ⟨rfl, rfl⟩ := trodVars_none hV
  have k0 := h0
  have lt0 : ∀ x ∈ p0, x.block < W.heap.size := by obtain ⟨m, hm⟩ := k0; exact DataW.trod_lt m _ _ _ hm
  have k1 := h1
  have lt1 : ∀ x ∈ p1, x.block < W.heap.size := by obtain ⟨m, hm⟩ := k1; exact DataW.trod_lt m _ _ _ hm
  obtain ⟨l0_, Z0_⟩ := open_numsZ (hval 0 27 v0 rfl rfl) h0 (fun n hn => by simpa using List.all_eq_true.1 hsz n (DataW.weights_mem_each (j := 0) (t := 27) (by kernel_rfl) rfl n hn))
  obtain ⟨c1_0, c1_1, c1_2, c1_3, y1_0, y1_1, y1_2, y1_3, m1, rfl, rfl, rfl, hy1_0, hy1_1, hy1_2, hy1_3⟩ := open_agg4 Try.underlying29 (by kernel_rfl) (by kernel_rfl) (hval 1 29 v1 rfl rfl) h1
  obtain ⟨a1_0, e1_0, rfl, w1_0⟩ := DataW.trod_int Try.underlying3 hy1_0
  simp at e1_0; subst e1_0
  obtain ⟨a1_1, e1_1, rfl, w1_1⟩ := DataW.trod_int Try.underlying3 hy1_1
  simp at e1_1; subst e1_1
  obtain ⟨a1_2, e1_2, rfl, w1_2⟩ := DataW.trod_int Try.underlying3 hy1_2
  simp at e1_2; subst e1_2
  obtain ⟨a1_3, e1_3, rfl, w1_3⟩ := DataW.trod_int Try.underlying3 hy1_3
  simp at e1_3; subst e1_3
  clear hA0 hval0
  refine (walk v0 l0_ Z0_ a1_0 (bounds_i64 w1_0) a1_1 (bounds_i64 w1_1) a1_2 (bounds_i64 w1_2) a1_3 (bounds_i64 w1_3)).mono fun e W' ⟨he, bel⟩ => ?_
  subst he
  exact ⟨_, rfl, _, _, _, [], _, [], hW', trodAll_mk1 (shut_bool Try.underlying4 _), (trodAll_cons_mk (Below.trod laidOut (by kernel_rfl) (of_decide_eq_true (by kernel_rfl)) k0 bel lt0) (trodAll_cons_mk (Below.trod laidOut (by kernel_rfl) (of_decide_eq_true (by kernel_rfl)) k1 bel lt1) trodAll_mk0)), rfl, bel.frame _, fun h => by cases h⟩

theorem over : Rows.tenureTakesRow.holds Try.pinned (OpenSpec.ofChange Rows.tenureTakesSpec) :=
  OpenClaim.holds_of_wide 4 Try.f4 rfl rfl rfl rfl rfl rfl rfl ⟨rfl, rfl, rfl, rfl, rfl⟩ rfl rfl rfl rfl rfl (by kernel_rfl) Try.func4 (by kernel_rfl)
    (of_decide_eq_true (by kernel_rfl)) (by unfold Func.isWrapper; first | (rw [if_pos (by decide +kernel)]; kernel_rfl) | (rw [if_neg (by decide +kernel)]; exact ⟨rfl, rfl⟩))
    (fun os started H enc _ => lifted os started H enc)

theorem proved : Rows.TenureTakesSaid := over
end Go.Proofs.Ytddpdmolknfjaaa.tenureTakes
namespace Go.Proofs.Ytddpdmolknfjaaa
theorem tenureTakes_holds : Rows.TenureTakesSaid := tenureTakes.proved
#print axioms tenureTakes_holds
end Go.Proofs.Ytddpdmolknfjaaa
