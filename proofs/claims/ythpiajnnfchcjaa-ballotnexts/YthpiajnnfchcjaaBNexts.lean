/-
  The next ballot is above the one that it was made of, and unlike that of every other node and life: estuarylaw09.BallotNexts returns true for every input; no condition.
-/
import Derived.Test.YthpiajnnfchcjaaBlF
import Derived.Test.YthpiajnnfchcjaaFlat
import Derived.ProofKit
import Derived.OpenShut
import Derived.ChangeOld
import Derived.Below
namespace Go.Proofs.Ythpiajnnfchcjaa.ballotNexts
open Go.ChangeShapes Go.WideShapes Go.ChangeAt Go.RowKit Go.Joins
set_option linter.unusedVariables false
attribute [local go_sem] ok_foldB

theorem lt_next {b : Bt} (d f : Int) (h0 : -9223372036854775808 ≤ b.n) (h : b.n < 9223372036854775807) : lt3 b (nxB b d f) = true := by
  have e : wrap64 (b.n + 1) = b.n + 1 := IntWalk.wrap64_in _ ⟨by omega, by omega⟩
  unfold lt3 nxB
  refine decide_eq_true (.inl ?_)
  dsimp only
  omega
set_option maxHeartbeats 1000000 in
theorem nexts_any (b : Bt) (d f o g : Int) (w : World) (h0 : -9223372036854775808 ≤ b.n) (h1 : b.n ≤ 9223372036854775807) :
    Calls Try.prog 29 #[bV b, .int .i64 d, .int .i64 f, .int .i64 o, .int .i64 g] w fun e w' => e = .returned (.bool true) ∧ Below w.heap.size w w' := by
  obtain ⟨N, hN⟩ : ∃ N, wrap64 (b.n + 1) = N := ⟨_, rfl⟩
  have HN : Hid (∀ x y, nxB b x y = ⟨N, x, y⟩) := fun x y => by unfold nxB; rw [hN]
  have HL : Hid (b.n < 9223372036854775807 → lt3 b ⟨N, d, f⟩ = true) := fun h => by rw [← HN.out]; exact lt_next d f h0 h
  go_enter Try.func29, Try.ntmps29
  go_upto_region 1 with fail
  obtain ⟨A, hAe, hB, hw⟩ := blk1 w (bC b) 23
  rw [hAe]
  clear hAe
  obtain ⟨x0, x1, x2⟩ := cells3 hB
  have hbv := Below.refl A.heap.size A
  go_upto_region 2 with (go_at_call 9; refine (bnext_any b d f _).mono ?_; rintro e W1 ⟨rfl, b1⟩; rw [HN.out])
  obtain ⟨B, hE, hN1, bB⟩ := blk1 W1 (bC ⟨N, d, f⟩) 23
  rw [show W1.alloc (.cells #[.int .i64 N, .int .i64 d, .int .i64 f] 23) = B from hE]
  clear hE
  have hbv := ab_trans b1 bB
  go_upto_region 3 with (go_at_call 9; refine (bnext_any b o g _).mono ?_; rintro e W2 ⟨rfl, b2⟩; rw [HN.out])
  obtain ⟨C, hE, hM, bC'⟩ := blk1 W2 (bC ⟨N, o, g⟩) 23
  rw [show W2.alloc (.cells #[.int .i64 N, .int .i64 o, .int .i64 g] 23) = C from hE]
  clear hE
  have hN2 := hN1.keep (ab_trans b2 bC')
  have hB2 := hB.keep (ab_trans hbv (ab_trans b2 bC'))
  have hw2 := ab_trans hw (ab_trans hbv (ab_trans b2 bC'))
  clear x0 x1 x2 b1 bB b2 bC' hN1 hB hw hbv
  generalize W1.heap.size = g1 at *
  generalize W2.heap.size = g2 at *
  obtain ⟨x0, x1, x2⟩ := cells3 hB2
  obtain ⟨y0, y1, y2⟩ := cells3 hN2
  obtain ⟨z0, z1, z2⟩ := cells3 hM
  have hbv := Below.refl C.heap.size C
  have HD : (d = o ∧ f = g) ∨ (d = o ∧ (f == g) = false ∧ decide (f = g) = false) ∨ ((d == o) = false ∧ decide (d = o) = false) := by
    by_cases h : d = o
    · by_cases k : f = g
      · exact .inl ⟨h, k⟩
      · exact .inr (.inl ⟨h, by simpa using k, by simpa using k⟩)
    · exact .inr (.inr ⟨by simpa using h, by simpa using h⟩)
  by_cases hm : b.n = 9223372036854775807
  · have hm' : (b.n == 9223372036854775807) = true := by simpa using hm
    clear hm
    rcases HD with ⟨rfl, rfl⟩ | ⟨rfl, h2, h3⟩ | ⟨h2, h3⟩
    all_goals
      go_wp2_with fail
      go_ret
      exact ⟨rfl, hw2⟩
  · have HL := HL.out (by omega)
    have hm' : (b.n == 9223372036854775807) = false := by simpa using hm
    clear hm
    rcases HD with ⟨rfl, rfl⟩ | ⟨rfl, h2, h3⟩ | ⟨h2, h3⟩
    all_goals
      go_wp2_with (go_at_call 30; refine (bless_any b ⟨N, d, f⟩ _).mono ?_; rintro e W3 ⟨rfl, b3⟩; rw [HL]; have hbv := b3)
      go_ret
      exact ⟨rfl, ab_trans hw2 b3⟩
set_option maxHeartbeats 1000000 in
theorem walk (c : Nat → Int) (hc : ∀ j, j < 7 → (Lit.int ((fun _ => IntKind.i64) j) (c j)).wf = true) (w : World) :
    Calls Try.prog 8 #[.agg ((List.range 7).map fun j => Value.int ((fun _ => IntKind.i64) j) (c j)).toArray] w fun e w' => e = .returned (.bool true) ∧ Below w.heap.size w w' := by
  have u0 := bounds_i64 (hc 0 (by omega))
  show Calls Try.prog 8 #[.agg #[.int .i64 (c 0), .int .i64 (c 1), .int .i64 (c 2), .int .i64 (c 3), .int .i64 (c 4), .int .i64 (c 5), .int .i64 (c 6)]] w _
  generalize c 0 = a0 at *
  generalize c 1 = a1 at *
  generalize c 2 = a2 at *
  generalize c 3 = a3 at *
  generalize c 4 = a4 at *
  generalize c 5 = a5 at *
  generalize c 6 = a6 at *
  clear hc
  go_enter Try.func8, Try.ntmps8
  go_upto_region 1 with fail
  obtain ⟨A, hAe, hB, hw⟩ := blk1 w #[.int .i64 a0, .int .i64 a1, .int .i64 a2, .int .i64 a3, .int .i64 a4, .int .i64 a5, .int .i64 a6] 62
  rw [hAe]
  clear hAe
  go_wp2_with (first
    | (go_at_call 11; refine (alive9_any _).mono ?_; rintro e W1 ⟨rfl, b1⟩; have hB1 := hB.keep b1; have y0 := hB1.at (i := 0) rfl; have y1 := hB1.at (i := 1) rfl; have y2 := hB1.at (i := 2) rfl; have y3 := hB1.at (i := 3) rfl; have y4 := hB1.at (i := 4) rfl; have y5 := hB1.at (i := 5) rfl; have y6 := hB1.at (i := 6) rfl)
    | (go_at_call 29; refine (nexts_any ⟨a0, a1, a2⟩ _ _ _ _ _ u0.1 u0.2).mono ?_; rintro e W2 ⟨rfl, b2⟩))
  go_ret
  exact ⟨rfl, ab_trans hw (ab_trans b1 b2)⟩
theorem own : ownKnob Try.prog.godebug = none := by kernel_rfl
theorem laidOut : laidOutB Try.prog = true := by kernel_rfl

set_option maxRecDepth 100000 in
theorem lifted (os : Os) (started : os.Started) (H : Type) (enc : TypeId × Value → H) :
    ReturnsInHanded {} Try.checked os 8 .any (Rows.ballotNextsSpec.pre6 enc Try.prog Try.f8 Rows.ballotNextsRow.domain false) (Rows.ballotNextsSpec.post enc Try.prog Try.f8 false true false false) := by
  refine returnsInHanded_of_change (C := Try.checked) own started (by kernel_rfl) Try.func8
    (ChangeSpec.witness6 (enc := enc) (C := Try.checked) false ⟨#[], #[.agg #[.int .i64 0, .int .i64 0, .int .i64 0, .int .i64 0, .int .i64 0, .int .i64 0, .int .i64 0]], []⟩ 8 (by kernel_rfl) (by kernel_rfl) (by kernel_rfl) (by kernel_rfl)) ?_
  intro W base args ds gs before hval0 hW hcnd _
  have hval : ∀ (j : Nat) t v, Try.f8.params[j]? = some t → args[j]? = some v → Value.okWide Try.prog W .any base t v := hval0
  have hW' := hW
  obtain ⟨p, q, hA0, hV, rfl, hfz, hnd⟩ := hW
  have hA : DataW.TrodAll enc Try.prog W 0 (fun _ => true) true Try.f8.params.toList args.toList ds p := hA0
  rw [Try.params8] at hA hval
  obtain ⟨v0, vs0, d0, ds0, p0, q0, hargs, rfl, rfl, h0, r0⟩ := trodAll_cons hA
  obtain ⟨rfl, rfl, rfl⟩ := trodAll_nil r0
  obtain rfl : args = #[v0] := by cases args; simp_all
  obtain ⟨rfl, rfl⟩ := trodVars_none hV
  have k0 := h0
  have lt0 : ∀ x ∈ p0, x.block < W.heap.size := by obtain ⟨m, hm⟩ := k0; exact DataW.trod_lt m _ _ _ hm
  obtain ⟨c0, rfl, hw0⟩ := open_flat (n := 7) (D := 8) (fun _ => .i64) Try.underlying62 rfl (by kernel_rfl) (kinds_of (by kernel_rfl)) (hval 0 62 v0 rfl rfl) h0
  clear hA0 hval0
  refine (walk c0 hw0 W).mono fun e W' ⟨he, bel⟩ => ?_
  subst he
  exact ⟨_, rfl, _, _, _, [], _, [], hW', trodAll_mk1 (shut_bool Try.underlying4 _), (trodAll_cons_mk (Below.trod laidOut (by kernel_rfl) (of_decide_eq_true (by kernel_rfl)) k0 bel lt0) trodAll_mk0), rfl, bel.frame _, fun h => by cases h⟩

theorem over : Rows.ballotNextsRow.holds Try.pinned (OpenSpec.ofChange Rows.ballotNextsSpec) :=
  OpenClaim.holds_of_wide 8 Try.f8 rfl rfl rfl rfl rfl rfl rfl ⟨rfl, rfl, rfl, rfl, rfl⟩ rfl rfl rfl rfl rfl (by kernel_rfl) Try.func8 (by kernel_rfl)
    (of_decide_eq_true (by kernel_rfl)) (by unfold Func.isWrapper; first | (rw [if_pos (by decide +kernel)]; kernel_rfl) | (rw [if_neg (by decide +kernel)]; exact ⟨rfl, rfl⟩))
    (fun os started H enc _ => lifted os started H enc)

theorem proved : Rows.BallotNextsSaid := over
end Go.Proofs.Ythpiajnnfchcjaa.ballotNexts
namespace Go.Proofs.Ythpiajnnfchcjaa
theorem ballotNexts_holds : Rows.BallotNextsSaid := ballotNexts.proved
#print axioms ballotNexts_holds
end Go.Proofs.Ythpiajnnfchcjaa
