/-
  Ballots are ordered by their number, then their node, then its life, strictly and as the document says, and the next one has the number behind: estuarylaw09.BallotLess returns true for every input; no condition.
-/
import Derived.Test.YthpiajnnfchcjaaBlF
import Derived.Test.YthpiajnnfchcjaaFlat
import Derived.ProofKit
import Derived.OpenShut
import Derived.ChangeOld
import Derived.Below
namespace Go.Proofs.Ythpiajnnfchcjaa.ballotLess
open Go.ChangeShapes Go.WideShapes Go.ChangeAt Go.RowKit Go.Joins
set_option linter.unusedVariables false
attribute [local go_sem] ok_foldB

theorem cls3 {W : World} {g : Nat} {b : Bt} {t : TypeId} (h : Blk W g (bC b) t) : (∀ x : Cls W, x.val.cell? ⟨g, 0, none⟩ = some (.int .i64 b.n)) ∧ (∀ x : Cls W, x.val.cell? ⟨g, 1, none⟩ = some (.int .i64 b.nd)) ∧ (∀ x : Cls W, x.val.cell? ⟨g, 2, none⟩ = some (.int .i64 b.lf)) :=
  ⟨cls_cell (h.at rfl) h.lt, cls_cell (h.at rfl) h.lt, cls_cell (h.at rfl) h.lt⟩
theorem lessI (a0 a1 a2 b0 b1 b2 : Int) (w : World) : Calls Try.prog 30 #[.agg #[.int .i64 a0, .int .i64 a1, .int .i64 a2], .agg #[.int .i64 b0, .int .i64 b1, .int .i64 b2]] w fun e w' => e = .returned (.bool (lt3 ⟨a0, a1, a2⟩ ⟨b0, b1, b2⟩)) ∧ Below w.heap.size w w' := bless_any ⟨a0, a1, a2⟩ ⟨b0, b1, b2⟩ w
theorem rlessI (a0 a1 a2 b0 b1 b2 : Int) (w : World) : Calls Try.prog 23 #[.agg #[.int .i64 a0, .int .i64 a1, .int .i64 a2], .agg #[.int .i64 b0, .int .i64 b1, .int .i64 b2]] w fun e w' => e = .returned (.bool (lt3 ⟨a0, a1, a2⟩ ⟨b0, b1, b2⟩)) ∧ Below w.heap.size w w' := rbless_any ⟨a0, a1, a2⟩ ⟨b0, b1, b2⟩ w
theorem lessV {a0 a1 a2 b0 b1 b2 : Int} {w : World} {v : Bool} (h : lt3 ⟨a0, a1, a2⟩ ⟨b0, b1, b2⟩ = v) : Calls Try.prog 30 #[.agg #[.int .i64 a0, .int .i64 a1, .int .i64 a2], .agg #[.int .i64 b0, .int .i64 b1, .int .i64 b2]] w fun e w' => e = .returned (.bool v) ∧ Below w.heap.size w w' := h ▸ lessI a0 a1 a2 b0 b1 b2 w
theorem rlessV {a0 a1 a2 b0 b1 b2 : Int} {w : World} {v : Bool} (h : lt3 ⟨a0, a1, a2⟩ ⟨b0, b1, b2⟩ = v) : Calls Try.prog 23 #[.agg #[.int .i64 a0, .int .i64 a1, .int .i64 a2], .agg #[.int .i64 b0, .int .i64 b1, .int .i64 b2]] w fun e w' => e = .returned (.bool v) ∧ Below w.heap.size w w' := h ▸ rlessI a0 a1 a2 b0 b1 b2 w
set_option maxHeartbeats 2000000 in
theorem orders_any (a b c : Bt) (w : World) :
    Calls Try.prog 10 #[bV a, bV b, bV c] w fun e w' => e = .returned (.bool true) ∧ Below w.heap.size w w' := by
  have HQ := eq3 a b
  have HC : (lt3 a b = true ∧ lt3 b a = false ∧ eqB a b = false) ∨ (lt3 a b = false ∧ lt3 b a = true ∧ eqB a b = false) ∨ (lt3 a b = false ∧ lt3 b a = false ∧ eqB a b = true) := by
    cases h1 : lt3 a b
    · cases h2 : lt3 b a
      · exact .inr (.inr ⟨rfl, rfl, lt3_eq h1 h2⟩)
      · exact .inr (.inl ⟨rfl, rfl, by
          cases h3 : eqB a b
          · rfl
          · rw [eqB_iff.1 h3, lt3_self] at h2; cases h2⟩)
    · exact .inl ⟨rfl, lt3_asym h1, lt3_ne h1⟩
  have HT : Hid (lt3 a b = true → lt3 b c = true → lt3 a c = true) := lt3_trans
  obtain ⟨a0, a1, a2⟩ := a
  obtain ⟨b0, b1, b2⟩ := b
  obtain ⟨c0, c1, c2⟩ := c
  dsimp only at HQ
  go_enter Try.func10, Try.ntmps10
  go_upto_region 1 with fail
  obtain ⟨A, hAe, hP, hA, hB, hw⟩ := blk3 w (bC ⟨a0, a1, a2⟩) (bC ⟨b0, b1, b2⟩) (bC ⟨c0, c1, c2⟩) 23 23 23
  rw [hAe]
  clear hAe
  go_upto_region 3 with (go_at_call 11; refine (alive9_any _).mono ?_; rintro e W1 ⟨rfl, hb⟩)
  have hP1 := hP.keep hb
  have hA1 := hA.keep hb
  have hB1 := hB.keep hb
  have hw1 := ab_trans hw hb
  clear hP hA hB hw hb
  obtain ⟨x0, x1, x2⟩ := cls3 hP1
  obtain ⟨x3, x4, x5⟩ := cls3 hA1
  have HZ := cls_some W1
  refine wp_region_below (by kernel_rfl) (by kernel_rfl) ?_
  rcases HC with ⟨h1, h2, h3⟩ | ⟨h1, h2, h3⟩ | ⟨h1, h2, h3⟩
  all_goals
    rw [h3] at HQ
    rw [h1] at HT
    repeat (go_big_quiet_step (first
      | (go_at_call 30; exact calls_below (lessV (by first | exact h1 | exact h2)))
      | (go_at_call 23; exact calls_below (rlessV (by first | exact h1 | exact h2)))))
    refine wpQuiet_nil ?_
    rintro _ ⟨x, rfl⟩
    obtain ⟨W2, hb⟩ := x
    dsimp only
    have hP2 := hP1.keep hb
    have hA2 := hA1.keep hb
    have hB2 := hB1.keep hb
    have hw2 := ab_trans hw1 hb
    clear hP1 hA1 hB1 hw1 hb x0 x1 x2 x3 x4 x5 HZ HQ h3 h2
    obtain ⟨x0, x1, x2⟩ := cells3 hP2
    obtain ⟨x3, x4, x5⟩ := cells3 hA2
    obtain ⟨x6, x7, x8⟩ := cells3 hB2
    have hbv := Below.refl W2.heap.size W2
  · cases h4 : lt3 ⟨b0, b1, b2⟩ ⟨c0, c1, c2⟩
    · clear HT
      go_upto_region 5 with fail
      go_wp2_with fail
      refine (bless_any ⟨a0, a1, a2⟩ ⟨b0, b1, b2⟩ _).mono ?_
      rintro e W3 ⟨rfl, b3⟩
      rw [h1]
      have hbv := ab_trans hbv b3
      go_wp2_with fail
      refine (bless_any ⟨b0, b1, b2⟩ ⟨c0, c1, c2⟩ _).mono ?_
      rintro e W4 ⟨rfl, b4⟩
      rw [h4]
      have hbv := ab_trans hbv b4
      go_wp2_with fail
      go_ret
      exact ⟨rfl, ab_trans hw2 hbv⟩
    · have h5 := HT.out rfl h4
      clear HT
      go_upto_region 5 with fail
      go_wp2_with fail
      refine (bless_any ⟨a0, a1, a2⟩ ⟨b0, b1, b2⟩ _).mono ?_
      rintro e W3 ⟨rfl, b3⟩
      rw [h1]
      have hbv := ab_trans hbv b3
      go_wp2_with fail
      refine (bless_any ⟨b0, b1, b2⟩ ⟨c0, c1, c2⟩ _).mono ?_
      rintro e W4 ⟨rfl, b4⟩
      rw [h4]
      have hbv := ab_trans hbv b4
      go_wp2_with fail
      refine (bless_any ⟨a0, a1, a2⟩ ⟨c0, c1, c2⟩ _).mono ?_
      rintro e W5 ⟨rfl, b5⟩
      rw [h5]
      have hbv := ab_trans hbv b5
      go_wp2_with fail
      go_ret
      exact ⟨rfl, ab_trans hw2 hbv⟩
  all_goals
    clear HT
    go_upto_region 5 with fail
    go_wp2_with fail
    refine (bless_any ⟨a0, a1, a2⟩ ⟨b0, b1, b2⟩ _).mono ?_
    rintro e W3 ⟨rfl, b3⟩
    rw [h1]
    have hbv := ab_trans hbv b3
    go_wp2_with fail
    go_ret
    exact ⟨rfl, ab_trans hw2 hbv⟩
set_option maxHeartbeats 1000000 in
theorem walk (c : Nat → Int) (hc : ∀ j, j < 10 → (Lit.int ((fun _ => IntKind.i64) j) (c j)).wf = true) (w : World) :
    Calls Try.prog 3 #[.agg ((List.range 10).map fun j => Value.int ((fun _ => IntKind.i64) j) (c j)).toArray] w fun e w' => e = .returned (.bool true) ∧ Below w.heap.size w w' := by
  show Calls Try.prog 3 #[.agg #[.int .i64 (c 0), .int .i64 (c 1), .int .i64 (c 2), .int .i64 (c 3), .int .i64 (c 4), .int .i64 (c 5), .int .i64 (c 6), .int .i64 (c 7), .int .i64 (c 8), .int .i64 (c 9)]] w _
  generalize c 0 = a0 at *
  generalize c 1 = a1 at *
  generalize c 2 = a2 at *
  generalize c 3 = a3 at *
  generalize c 4 = a4 at *
  generalize c 5 = a5 at *
  generalize c 6 = a6 at *
  generalize c 7 = a7 at *
  generalize c 8 = a8 at *
  generalize c 9 = a9 at *
  clear hc
  obtain ⟨N, hN⟩ : ∃ N, wrap64 (a0 + 1) = N := ⟨_, rfl⟩
  have HN : Hid (nxB ⟨a0, a1, a2⟩ a9 a5 = ⟨N, a9, a5⟩) := by show _ = _; unfold nxB; rw [hN]
  go_enter Try.func3, Try.ntmps3
  go_upto_region 1 with fail
  obtain ⟨A, hAe, hB, hw⟩ := blk1 w #[.int .i64 a0, .int .i64 a1, .int .i64 a2, .int .i64 a3, .int .i64 a4, .int .i64 a5, .int .i64 a6, .int .i64 a7, .int .i64 a8, .int .i64 a9] 25
  rw [hAe]
  clear hAe
  have y0 := hB.at (i := 0) rfl
  have y1 := hB.at (i := 1) rfl
  have y2 := hB.at (i := 2) rfl
  have y5 := hB.at (i := 5) rfl
  have y9 := hB.at (i := 9) rfl
  go_upto_region 2 with (go_at_call 9; refine (bnext_any ⟨a0, a1, a2⟩ a9 a5 _).mono ?_; rintro e W1 ⟨rfl, b1⟩; rw [HN.out])
  obtain ⟨B, hE, hN1, bB⟩ := blk1 W1 (bC ⟨N, a9, a5⟩) 23
  rw [show W1.alloc (.cells #[.int .i64 N, .int .i64 a9, .int .i64 a5] 23) = B from hE]
  clear hE y0 y1 y2 y5 y9
  have hB1 := hB.keep (ab_trans b1 bB)
  have hw1 := ab_trans hw (ab_trans b1 bB)
  generalize W1.heap.size = g1 at *
  have D : ∀ V, Below B.heap.size B V → ∀ i v, (#[Value.int .i64 a0, .int .i64 a1, .int .i64 a2, .int .i64 a3, .int .i64 a4, .int .i64 a5, .int .i64 a6, .int .i64 a7, .int .i64 a8, .int .i64 a9])[i]? = some v → V.cell? ⟨w.heap.size, i, none⟩ = some v := fun V hb i v hv => (hB1.keep hb).at hv
  obtain ⟨z0, z1, z2⟩ := cells3 hN1
  have hbv := Below.refl B.heap.size B
  have y0 := fun V hb => D V hb 0 _ rfl
  have y1 := fun V hb => D V hb 1 _ rfl
  have y2 := fun V hb => D V hb 2 _ rfl
  have y3 := fun V hb => D V hb 3 _ rfl
  have y4 := fun V hb => D V hb 4 _ rfl
  have y5 := fun V hb => D V hb 5 _ rfl
  have y6 := fun V hb => D V hb 6 _ rfl
  have y7 := fun V hb => D V hb 7 _ rfl
  have y8 := fun V hb => D V hb 8 _ rfl
  have y9 := fun V hb => D V hb 9 _ rfl
  clear D
  go_wp2_with (go_at_call 10; refine (orders_any ⟨a0, a1, a2⟩ ⟨a3, a4, a5⟩ ⟨a6, a7, a8⟩ _).mono ?_; rintro e W2 ⟨rfl, b2⟩; have hbv := b2)
  go_ret
  exact ⟨rfl, ab_trans hw1 b2⟩
theorem own : ownKnob Try.prog.godebug = none := by kernel_rfl
theorem laidOut : laidOutB Try.prog = true := by kernel_rfl

set_option maxRecDepth 100000 in
theorem lifted (os : Os) (started : os.Started) (H : Type) (enc : TypeId × Value → H) :
    ReturnsInHanded {} Try.checked os 3 .any (Rows.ballotLessSpec.pre6 enc Try.prog Try.f3 Rows.ballotLessRow.domain false) (Rows.ballotLessSpec.post enc Try.prog Try.f3 false true false false) := by
  refine returnsInHanded_of_change (C := Try.checked) own started (by kernel_rfl) Try.func3
    (ChangeSpec.witness6 (enc := enc) (C := Try.checked) false ⟨#[], #[.agg #[.int .i64 0, .int .i64 0, .int .i64 0, .int .i64 0, .int .i64 0, .int .i64 0, .int .i64 0, .int .i64 0, .int .i64 0, .int .i64 0]], []⟩ 8 (by kernel_rfl) (by kernel_rfl) (by kernel_rfl) (by kernel_rfl)) ?_
  intro W base args ds gs before hval0 hW hcnd _
  have hval : ∀ (j : Nat) t v, Try.f3.params[j]? = some t → args[j]? = some v → Value.okWide Try.prog W .any base t v := hval0
  have hW' := hW
  obtain ⟨p, q, hA0, hV, rfl, hfz, hnd⟩ := hW
  have hA : DataW.TrodAll enc Try.prog W 0 (fun _ => true) true Try.f3.params.toList args.toList ds p := hA0
  rw [Try.params3] at hA hval
  obtain ⟨v0, vs0, d0, ds0, p0, q0, hargs, rfl, rfl, h0, r0⟩ := trodAll_cons hA
  obtain ⟨rfl, rfl, rfl⟩ := trodAll_nil r0
  obtain rfl : args = #[v0] := by cases args; simp_all
  obtain ⟨rfl, rfl⟩ := trodVars_none hV
  have k0 := h0
  have lt0 : ∀ x ∈ p0, x.block < W.heap.size := by obtain ⟨m, hm⟩ := k0; exact DataW.trod_lt m _ _ _ hm
  obtain ⟨c0, rfl, hw0⟩ := open_flat (n := 10) (D := 8) (fun _ => .i64) Try.underlying25 rfl (by kernel_rfl) (kinds_of (by kernel_rfl)) (hval 0 25 v0 rfl rfl) h0
  clear hA0 hval0
  refine (walk c0 hw0 W).mono fun e W' ⟨he, bel⟩ => ?_
  subst he
  exact ⟨_, rfl, _, _, _, [], _, [], hW', trodAll_mk1 (shut_bool Try.underlying4 _), (trodAll_cons_mk (Below.trod laidOut (by kernel_rfl) (of_decide_eq_true (by kernel_rfl)) k0 bel lt0) trodAll_mk0), rfl, bel.frame _, fun h => by cases h⟩

theorem over : Rows.ballotLessRow.holds Try.pinned (OpenSpec.ofChange Rows.ballotLessSpec) :=
  OpenClaim.holds_of_wide 3 Try.f3 rfl rfl rfl rfl rfl rfl rfl ⟨rfl, rfl, rfl, rfl, rfl⟩ rfl rfl rfl rfl rfl (by kernel_rfl) Try.func3 (by kernel_rfl)
    (of_decide_eq_true (by kernel_rfl)) (by unfold Func.isWrapper; first | (rw [if_pos (by decide +kernel)]; kernel_rfl) | (rw [if_neg (by decide +kernel)]; exact ⟨rfl, rfl⟩))
    (fun os started H enc _ => lifted os started H enc)

theorem proved : Rows.BallotLessSaid := over
end Go.Proofs.Ythpiajnnfchcjaa.ballotLess
namespace Go.Proofs.Ythpiajnnfchcjaa
theorem ballotLess_holds : Rows.BallotLessSaid := ballotLess.proved
#print axioms ballotLess_holds
end Go.Proofs.Ythpiajnnfchcjaa
