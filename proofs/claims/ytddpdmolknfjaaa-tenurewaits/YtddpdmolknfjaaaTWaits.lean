/-
  How long a watch waits: estuarylaw13.TenureWaits returns true for every input; no condition.
-/
import Derived.Test.YtddpdmolknfjaaaTnE
import Derived.ProofKit
import Derived.OpenShut
import Derived.ChangeOld
import Derived.Below
namespace Go.Proofs.Ytddpdmolknfjaaa.tenureWaits
open Go.ChangeShapes Go.WideShapes Go.ChangeAt Go.RowKit Go.Joins
set_option linter.unusedVariables false

/-- The watch that saw beat v for a ticks. -/
def st (t v a : Nat) : Wt := ⟨5, 1, (t : Int), true, [7, 4, 0, (v : Int)], (a : Int)⟩
def hd (t : Nat) : Nat → Wt
  | 0 => newW 5 1 (t : Int)
  | k + 1 => st t k (t - 1)
theorem saw_hd (t k : Nat) : sawW (hd t k) [7, 4, 0, (k : Int)] = st t k 0 := by
  cases k with
  | zero => rfl
  | succ k =>
    have h : decide ([7, 4, 0, ((k + 1 : Nat) : Int)] = [7, 4, 0, (k : Int)]) = false := decide_eq_false (fun h => by simp at h; omega)
    show sawW (st t k (t - 1)) _ = _
    unfold sawW st
    rw [h]
    rfl
theorem saw_st (t v a : Nat) : sawW (st t v a) [7, 4, 0, (v : Int)] = st t v a := by
  unfold sawW st
  rw [decide_eq_true rfl]
  rfl
theorem tick_st (t v a : Nat) (h : a < 1000) : tickW (st t v a) = st t v (a + 1) := by
  unfold tickW st
  rw [if_pos (show (a : Int) < 1000 by omega)]
  congr 1
theorem lease_st (t v a : Nat) : isL (st t v a).vl = true ∧ tkL (st t v a).vl = ⟨7, 4, 0, (v : Int)⟩ := isL_yes (by omega)
theorem ld_st (t v a : Nat) : ldB (st t v a) = false := by
  unfold ldB
  rw [(lease_st t v a).1, (lease_st t v a).2]
  rfl
theorem read_st (t v a : Nat) (h : a < t) : wnK (st t v a) = 1 ∧ wnO (st t v a) = [] ∧ wnN (st t v a) = [] := wn_wait (ld_st t v a) (lease_st t v a).1 (show (a : Int) < (t : Int) by omega)
theorem take_st (t v a : Nat) (h : ¬ a < t) : wnK (st t v a) = 2 ∧ wnO (st t v a) = [7, 4, 0, (v : Int)] ∧ wnN (st t v a) = [8, 5, 1, 0] := by
  have := wn_take (S := st t v a) rfl (ld_st t v a) (.inr (show ¬ (a : Int) < (t : Int) by omega)) (lease_st t v a).2
  rw [show nx 7 = 8 from nx_ok (by omega) (by omega)] at this
  exact this
set_option maxRecDepth 100000 in
set_option maxHeartbeats 8000000 in
theorem walk (ti : Int) (hti : I64 ti) (be : Int) (hbe : I64 be) (wa : Int) (hwa : I64 wa) (W : World) :
    Calls Try.prog 6 #[.int .i64 ti, .int .i64 be, .int .i64 wa] W fun e w' => e = .returned (.bool true) ∧ Below W.heap.size W w' := by
  go_enter Try.func6, Try.ntmps6
  go_wp2_with fail
  refine (alive13_any _).mono ?_
  rintro e W1 ⟨rfl, b1⟩
  go_upto_region 5 with fail
  obtain ⟨k1, h1, e1⟩ := mod_nat13 ti 20 (by omega) (by omega)
  obtain ⟨B, hB, e2⟩ := mod_nat13 be 30 (by omega) (by omega)
  obtain ⟨N, hN, e3⟩ := mod_nat13 wa 60 (by omega) (by omega)
  have e4 : wrap64 (1 + (k1 : Int)) = ((k1 + 1 : Nat) : Int) := by unfold wrap64; omega
  rw [e1, e2, e3, e4]
  obtain ⟨t, ht⟩ : ∃ t, k1 + 1 = t := ⟨_, rfl⟩
  rw [ht]
  have t1 : 1 ≤ t := by omega
  have t20 : t ≤ 20 := by omega
  have B30 : B < 30 := by omega
  have N60 : N < 60 := by omega
  clear e1 e2 e3 e4 h1 ht hB hN hti hbe hwa
  go_wp2_with fail
  refine (tnew_ok 5 1 (t : Int) _ (by omega)).mono ?_
  rintro e W2 ⟨b, rfl, hW2, b2⟩
  have E1 := neq00
  go_wp2_with fail
  clear E1
  go_loopw [9] (fun i wr => ∃ k : Nat, k ≤ B + 1 ∧ i = .int .i64 (k : Int) ∧ Wh wr W1.heap.size b (hd t k) ∧ Below W1.heap.size W1 wr) (fun i _ => B + 1 - (intOf i).toNat)
  case atStart => exact ⟨0, by omega, rfl, hW2, b2⟩
  case round =>
    clear hW2 b2
    obtain ⟨k, hk, rfl, hWk, hb⟩ := hrel
    by_cases ck : k = B + 1
    · subst ck
      have cc : ¬ ((B + 1 : Nat) : Int) ≤ (B : Int) := by omega
      have hWk : Wh _ W1.heap.size b (st t B (t - 1)) := hWk
      go_wp2_with fail
      clear cc
      go_loopw [11] (fun i wr => ∃ j : Nat, j ≤ N ∧ i = .int .i64 (j : Int) ∧ Wh wr W1.heap.size b (st t B (t - 1 + j)) ∧ Below W1.heap.size W1 wr) (fun i _ => N - (intOf i).toNat)
      case atStart => exact ⟨0, by omega, rfl, hWk, hb⟩
      case round =>
        clear hWk hb
        obtain ⟨j, hj, rfl, hWj, hb⟩ := hrel
        by_cases cj : j = N
        · subst cj
          go_wp2_with fail
          refine (twant_any _ b _ _ hWj).mono ?_
          rintro e V1 ⟨⟨q1, c1, q2, c2, rfl, hO1, hO2⟩, v1⟩
          have hb1 := hb.trans (v1.mono (Nat.le_trans hWj.ge (Nat.le_of_lt hWj.lt)))
          obtain ⟨A, hAe, hB, hwA⟩ := blk1 V1 (cgC 0 (.slice none 0 0) (.slice none 0 0)) 51
          clear hb hWj v1
          by_cases j0 : j = 0
          · obtain ⟨r1, r2, r3⟩ := read_st t B (t - 1 + j) (by omega)
            rw [r1, r2, r3]
            clear r1 r2 r3 hO1 hO2
            go_upto_region 24 with (refine st_cg rfl rfl hB rfl rfl ?_; intro V2 hB2 C2)
            have hb2 : Below W1.heap.size W1 V2 := ab_chg (ab_trans hb1 hwA) C2 hb1.size
            have y0 : V2.cell? ⟨V1.heap.size, 0, none⟩ = some (.int .i64 1) := hB2.at rfl
            have j1 : ((j : Int) == 0) = true := by simp [j0]
            clear hAe hB hwA C2 hB2 j0
            go_wp2_with fail
            go_ret
            exact ⟨rfl, ab_trans b1 hb2⟩
          · obtain ⟨r1, r2, r3⟩ := take_st t B (t - 1 + j) (by omega)
            rw [r1] at *
            rw [r2] at hO1 ⊢
            rw [r3] at hO2 ⊢
            clear r1 r2 r3
            go_upto_region 24 with (refine st_cg rfl rfl hB rfl rfl ?_; intro V2 hB2 C2)
            have v2 : Below V1.heap.size V1 V2 := ab_chg hwA C2 (Nat.le_refl _)
            have hb2 : Below W1.heap.size W1 V2 := ab_trans hb1 v2
            have P1 := hO1.keep v2
            have P2 := hO2.keep v2
            have y0 : V2.cell? ⟨V1.heap.size, 0, none⟩ = some (.int .i64 2) := hB2.at rfl
            have y2 : V2.cell? ⟨V1.heap.size, 2, none⟩ = some (.slice q2 4 c2) := hB2.at rfl
            have y1 : ∀ V, Below V2.heap.size V2 V → V.cell? ⟨V1.heap.size, 1, none⟩ = some (.slice q1 4 c1) := fun V hb => (hB2.keep hb).at rfl
            have j1 : ((j : Int) == 0) = false := by simp [j0]
            clear hAe hB hwA C2 hB2 j0 hO1 hO2 v2 hb1
            go_upto_region 26 with fail
            clear j1
            go_wp2_with (refine bs_own rfl rfl [8, 5, 1, 0] (by simp only [List.map_toArray, List.map_cons, List.map_nil]; rfl) (isl4 _ _ _ _ _) rfl (by decide) ?_; intro V3 hN3 v3 z9; clear z9; go_frame)
            refine (gints_any _ _ [8, 5, 1, 0] [8, 5, 1, 0] _ (P2.is.keep v3) (own_is hN3) (by decide) (by decide)).mono ?_
            rintro e V4 ⟨rfl, v4⟩
            rw [show decide (([8, 5, 1, 0] : List Int) = [8, 5, 1, 0]) = true from rfl]
            have v34 := ab_trans v3 v4
            have y1 := y1 V4 v34
            have P4 := P1.keep v34
            have hb4 := ab_trans hb2 v34
            clear P1 P2 hN3 v3 v4 v34 y0 y2 hb2
            go_wp2_with (refine bs_own rfl rfl [7, 4, 0, (B : Int)] (by simp only [List.map_toArray, List.map_cons, List.map_nil]; rfl) (isl4 _ _ _ _ _) rfl (by decide) ?_; intro V5 hN5 v5 z9; clear z9; go_frame)
            refine (gints_any _ _ [7, 4, 0, (B : Int)] [7, 4, 0, (B : Int)] _ (P4.is.keep v5) (own_is hN5) (by simp) (by simp)).mono ?_
            rintro e V6 ⟨rfl, v6⟩
            rw [decide_eq_true (rfl : [7, 4, 0, (B : Int)] = [7, 4, 0, (B : Int)])]
            go_wp2_with fail
            go_ret
            exact ⟨rfl, ab_trans b1 (ab_trans hb4 (ab_trans v5 v6))⟩
        · have hji : (j : Int) < (N : Int) := by omega
          go_wp2_with fail
          refine (ttick_any _ b _ _ hWj).mono ?_
          rintro e V1 ⟨rfl, hV1, C1⟩
          rw [tick_st _ _ _ (by omega)] at hV1
          have hb1 := hb.trans (C1.below hWj.ge)
          go_wp2_with (refine bs_own rfl rfl [7, 4, 0, (B : Int)] (by simp only [List.map_toArray, List.map_cons, List.map_nil]; rfl) (isl4 _ _ _ _ _) rfl (by decide) ?_; intro V2 hN2 v2 z9; clear z9; go_frame)
          refine (tsaw_any _ b _ _ [7, 4, 0, (B : Int)] _ (hV1.keep v2) (own_is hN2) (by simp)).mono ?_
          rintro e V3 ⟨rfl, hV3, f3⟩
          rw [saw_st] at hV3
          have hb3 := hb1.trans ((v2.mono (Nat.le_trans hV1.ge (Nat.le_of_lt hV1.lt))).trans ((hV1.keep v2).below f3))
          go_wp2_with fail
          exact ⟨⟨j + 1, by omega, rfl, hV3, hb3⟩, by simp only [intOf]; omega⟩
    · have hki : (k : Int) ≤ (B : Int) := by omega
      go_wp2_with (refine bs_own rfl rfl [7, 4, 0, (k : Int)] (by simp only [List.map_toArray, List.map_cons, List.map_nil]; rfl) (isl4 _ _ _ _ _) rfl (by decide) ?_; intro V2 hN2 v2 z9; clear z9; go_frame)
      refine (tsaw_any _ b _ _ [7, 4, 0, (k : Int)] _ (hWk.keep v2) (own_is hN2) (by simp)).mono ?_
      rintro e V3 ⟨rfl, hV3, f3⟩
      rw [saw_hd] at hV3
      have hb3 := hb.trans ((v2.mono (Nat.le_trans hWk.ge (Nat.le_of_lt hWk.lt))).trans ((hWk.keep v2).below f3))
      clear hWk hb hN2 v2 f3
      go_wp2_with fail
      go_loopw [10] (fun i wr => ∃ j : Nat, 1 ≤ j ∧ j ≤ t ∧ i = .int .i64 (j : Int) ∧ Wh wr W1.heap.size b (st t k (j - 1)) ∧ Below W1.heap.size W1 wr) (fun i _ => t - (intOf i).toNat)
      case atStart => exact ⟨1, by omega, by omega, rfl, hV3, hb3⟩
      case round =>
        clear hV3 hb3
        obtain ⟨j, hj1, hj, rfl, hWj, hb⟩ := hrel
        by_cases cj : j = t
        · subst cj
          go_wp2_with fail
          exact ⟨⟨k + 1, by omega, rfl, hWj, hb⟩, by simp only [intOf]; omega⟩
        · have hji : (j : Int) < (t : Int) := by omega
          go_wp2_with fail
          refine (ttick_any _ b _ _ hWj).mono ?_
          rintro e V1 ⟨rfl, hV1, C1⟩
          rw [tick_st _ _ _ (by omega), show j - 1 + 1 = j by omega] at hV1
          have hb1 := hb.trans (C1.below hWj.ge)
          clear C1 hWj hb
          go_wp2_with fail
          refine (twant_any _ b _ _ hV1).mono ?_
          rintro e V2 ⟨⟨q1, c1, q2, c2, rfl, -, -⟩, v2⟩
          obtain ⟨r1, r2, r3⟩ := read_st t k j (by omega)
          rw [r1, r2, r3]
          clear r1 r2 r3
          have E2 := fld0 1 q1 0 c1 q2 0 c2
          have hV2 := hV1.keep v2
          have hb2 := hb1.trans (v2.mono (Nat.le_trans hV1.ge (Nat.le_of_lt hV1.lt)))
          go_wp2_with fail
          exact ⟨⟨j + 1, by omega, by omega, rfl, hV2, hb2⟩, by simp only [intOf]; omega⟩
theorem own : ownKnob Try.prog.godebug = none := by kernel_rfl
theorem laidOut : laidOutB Try.prog = true := by kernel_rfl

set_option maxRecDepth 100000 in
theorem lifted (os : Os) (started : os.Started) (H : Type) (enc : TypeId × Value → H) :
    ReturnsInHanded {} Try.checked os 6 .any (Rows.tenureWaitsSpec.pre6 enc Try.prog Try.f6 Rows.tenureWaitsRow.domain false) (Rows.tenureWaitsSpec.post enc Try.prog Try.f6 false true false false) := by
  refine returnsInHanded_of_change (C := Try.checked) own started (by kernel_rfl) Try.func6
    (ChangeSpec.witness6 (enc := enc) (C := Try.checked) false ⟨#[], #[.int .i64 0, .int .i64 0, .int .i64 0], []⟩ 8 (by kernel_rfl) (by kernel_rfl) (by kernel_rfl) (by kernel_rfl)) ?_
  intro W base args ds gs before hval0 hW hcnd _
  have hval : ∀ (j : Nat) t v, Try.f6.params[j]? = some t → args[j]? = some v → Value.okWide Try.prog W .any base t v := hval0
  have hW' := hW
  obtain ⟨p, q, hA0, hV, rfl, hfz, hnd⟩ := hW
  have hA : DataW.TrodAll enc Try.prog W 0 (fun _ => true) true Try.f6.params.toList args.toList ds p := hA0
  rw [Try.params6] at hA hval
  obtain ⟨v0, vs0, d0, ds0, p0, q0, hargs, rfl, rfl, h0, r0⟩ := trodAll_cons hA
  obtain ⟨v1, vs1, d1, ds1, p1, q1, rfl, rfl, rfl, h1, r1⟩ := trodAll_cons r0
  obtain ⟨v2, vs2, d2, ds2, p2, q2, rfl, rfl, rfl, h2, r2⟩ := trodAll_cons r1
  obtain ⟨rfl, rfl, rfl⟩ := trodAll_nil r2
  obtain rfl : args = #[v0, v1, v2] := by cases args; simp_all
  obtain ⟨rfl, rfl⟩ := trodVars_none hV
  have k0 := h0
  have lt0 : ∀ x ∈ p0, x.block < W.heap.size := by obtain ⟨m, hm⟩ := k0; exact DataW.trod_lt m _ _ _ hm
  have k1 := h1
  have lt1 : ∀ x ∈ p1, x.block < W.heap.size := by obtain ⟨m, hm⟩ := k1; exact DataW.trod_lt m _ _ _ hm
  have k2 := h2
  have lt2 : ∀ x ∈ p2, x.block < W.heap.size := by obtain ⟨m, hm⟩ := k2; exact DataW.trod_lt m _ _ _ hm
  obtain ⟨a0, rfl, rfl, rfl, w0⟩ := open_int Try.underlying3 (hval 0 3 v0 rfl rfl) h0
  obtain ⟨a1, rfl, rfl, rfl, w1⟩ := open_int Try.underlying3 (hval 1 3 v1 rfl rfl) h1
  obtain ⟨a2, rfl, rfl, rfl, w2⟩ := open_int Try.underlying3 (hval 2 3 v2 rfl rfl) h2
  clear hA0 hval0
  refine (walk a0 (bounds_i64 w0) a1 (bounds_i64 w1) a2 (bounds_i64 w2) W).mono fun e W' ⟨he, bel⟩ => ?_
  subst he
  exact ⟨_, rfl, _, _, _, [], _, [], hW', trodAll_mk1 (shut_bool Try.underlying4 _), (trodAll_cons_mk (Below.trod laidOut (by kernel_rfl) (of_decide_eq_true (by kernel_rfl)) k0 bel lt0) (trodAll_cons_mk (Below.trod laidOut (by kernel_rfl) (of_decide_eq_true (by kernel_rfl)) k1 bel lt1) (trodAll_cons_mk (Below.trod laidOut (by kernel_rfl) (of_decide_eq_true (by kernel_rfl)) k2 bel lt2) trodAll_mk0))), rfl, bel.frame _, fun h => by cases h⟩

theorem over : Rows.tenureWaitsRow.holds Try.pinned (OpenSpec.ofChange Rows.tenureWaitsSpec) :=
  OpenClaim.holds_of_wide 6 Try.f6 rfl rfl rfl rfl rfl rfl rfl ⟨rfl, rfl, rfl, rfl, rfl⟩ rfl rfl rfl rfl rfl (by kernel_rfl) Try.func6 (by kernel_rfl)
    (of_decide_eq_true (by kernel_rfl)) (by unfold Func.isWrapper; first | (rw [if_pos (by decide +kernel)]; kernel_rfl) | (rw [if_neg (by decide +kernel)]; exact ⟨rfl, rfl⟩))
    (fun os started H enc _ => lifted os started H enc)

theorem proved : Rows.TenureWaitsSaid := over
end Go.Proofs.Ytddpdmolknfjaaa.tenureWaits
namespace Go.Proofs.Ytddpdmolknfjaaa
theorem tenureWaits_holds : Rows.TenureWaitsSaid := tenureWaits.proved
#print axioms tenureWaits_holds
end Go.Proofs.Ytddpdmolknfjaaa
