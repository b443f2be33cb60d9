/-
  Places are strictly ordered, with nothing between a place and the one behind it, and none ahead of the least: estuarylaw03.PlaceStrict returns true for every input; no condition.
-/
import Derived.Test.YtffgndmcamedaaaAlive3
import Derived.ProofKit
import Derived.OpenShut
import Derived.ChangeOld
import Derived.Below
import Derived.Lib.SmallJoins
namespace Go.Proofs.Ytffgndmcamedaaa.placeStrict
open Go.ChangeShapes Go.WideShapes Go.ChangeAt Go.RowKit Go.Joins
set_option linter.unusedVariables false
theorem fold (p : Prop) [Decidable p] (b : Bool) (w : World) : (if p then Result.ok b w else Result.ok false w) = Result.ok (decide p && b) w := by
  by_cases h : p <;> simp [h]
attribute [local go_sem] fold

theorem pl_self (a0 a1 : Int) : pl a0 a1 a0 a1 = false := by unfold pl; exact decide_eq_false (by omega)
theorem pl_least {a0 a1 : Int} (h0 : -9223372036854775808 ≤ a0) (h1 : -9223372036854775808 ≤ a1) : pl a0 a1 (-9223372036854775808) (-9223372036854775808) = false := by unfold pl; exact decide_eq_false (by omega)
theorem pl_not {a0 a1 b0 b1 : Int} (h : pl a0 a1 b0 b1 = true) : pl b0 b1 a0 a1 = false ∧ (decide (a0 = b0) && decide (a1 = b1)) = false := by
  unfold pl at *
  have := of_decide_eq_true h
  refine ⟨decide_eq_false (by omega), ?_⟩
  rw [Bool.and_eq_false_iff]
  by_cases e : a0 = b0
  · exact .inr (decide_eq_false (by omega))
  · exact .inl (decide_eq_false e)
theorem pl_eq {a0 a1 b0 b1 : Int} (h : pl a0 a1 b0 b1 = false) (k : pl b0 b1 a0 a1 = false) : a0 = b0 ∧ a1 = b1 := by
  unfold pl at *
  have := of_decide_eq_false h
  have := of_decide_eq_false k
  omega
theorem pl_trans {p0 p1 a0 a1 b0 b1 : Int} (h : pl p0 p1 a0 a1 = true) (k : pl a0 a1 b0 b1 = true) : pl p0 p1 b0 b1 = true := by
  unfold pl at *
  have := of_decide_eq_true h
  have := of_decide_eq_true k
  exact decide_eq_true (by omega)
theorem af_next {p0 p1 : Int} (u0 : -9223372036854775808 ≤ p0 ∧ p0 ≤ 9223372036854775807) (u1 : -9223372036854775808 ≤ p1 ∧ p1 ≤ 9223372036854775807) (h : afB p0 p1 = true) :
    pl p0 p1 (afW p0 p1) (afK p0 p1) = true ∧ ∀ a0 a1, -9223372036854775808 ≤ a1 → a1 ≤ 9223372036854775807 → pl p0 p1 a0 a1 = true → pl a0 a1 (afW p0 p1) (afK p0 p1) = false := by
  by_cases c : p1 < 9223372036854775807
  · obtain ⟨e1, e2, -⟩ := af_1 (w := p0) c
    rw [e1, e2]
    unfold pl
    refine ⟨decide_eq_true (by omega), fun a0 a1 h0 h1 h => ?_⟩
    have := of_decide_eq_true h
    exact decide_eq_false (by omega)
  · by_cases d : p0 < 9223372036854775807
    · obtain ⟨e1, e2, -⟩ := af_2 (w := p0) c d
      rw [e1, e2]
      unfold pl
      refine ⟨decide_eq_true (by omega), fun a0 a1 h0 h1 h => ?_⟩
      have := of_decide_eq_true h
      exact decide_eq_false (by omega)
    · obtain ⟨-, -, e3⟩ := af_3 (w := p0) c d
      rw [e3] at h; cases h
theorem af_last {p0 p1 : Int} (u0 : p0 ≤ 9223372036854775807) (u1 : p1 ≤ 9223372036854775807) (h : afB p0 p1 = false) :
    afW p0 p1 = p0 ∧ afK p0 p1 = p1 ∧ ∀ a0 a1, a0 ≤ 9223372036854775807 → a1 ≤ 9223372036854775807 → pl p0 p1 a0 a1 = false := by
  have hh := of_decide_eq_false h
  obtain ⟨e1, e2, -⟩ := af_3 (w := p0) (k := p1) (by omega) (by omega)
  refine ⟨e1, e2, fun a0 a1 h0 h1 => ?_⟩
  unfold pl
  exact decide_eq_false (by omega)

set_option maxRecDepth 100000 in
set_option maxHeartbeats 1000000 in
theorem walk (p0 : Int) (u0 : -9223372036854775808 ≤ p0 ∧ p0 ≤ 9223372036854775807) (p1 : Int) (u1 : -9223372036854775808 ≤ p1 ∧ p1 ≤ 9223372036854775807)
    (a0 : Int) (v0 : -9223372036854775808 ≤ a0 ∧ a0 ≤ 9223372036854775807) (a1 : Int) (v1 : -9223372036854775808 ≤ a1 ∧ a1 ≤ 9223372036854775807)
    (b0 : Int) (w0 : -9223372036854775808 ≤ b0 ∧ b0 ≤ 9223372036854775807) (b1 : Int) (w1 : -9223372036854775808 ≤ b1 ∧ b1 ≤ 9223372036854775807) (w : World) :
    Calls Try.prog 4 #[.agg #[.int .i64 p0, .int .i64 p1], .agg #[.int .i64 a0, .int .i64 a1], .agg #[.int .i64 b0, .int .i64 b1]] w fun e w' => e = .returned (.bool true) ∧ Below w.heap.size w w' := by
  have hS := pl_self a0 a1
  have hL := pl_least v0.1 v1.1
  have HT : Hid (pl p0 p1 a0 a1 = true → pl a0 a1 b0 b1 = true → pl p0 p1 b0 b1 = true) := pl_trans
  have HN : Hid (afB p0 p1 = true → _) := af_next u0 u1
  have HX : Hid (afB p0 p1 = false → _) := af_last u0.2 u1.2
  have H1 : Hid (pl a0 a1 b0 b1 = true → _) := pl_not
  have H2 : Hid (pl b0 b1 a0 a1 = true → _) := pl_not
  have H3 : Hid (pl a0 a1 b0 b1 = false → pl b0 b1 a0 a1 = false → _) := pl_eq
  go_enter Try.func4, Try.ntmps4
  go_upto_region 1 with fail
  obtain ⟨A, hAe, hP, hA, hB, hw⟩ := blk3 w #[.int .i64 p0, .int .i64 p1] #[.int .i64 a0, .int .i64 a1] #[.int .i64 b0, .int .i64 b1] 23 23 23
  rw [hAe]
  clear hAe
  go_upto_region 3 with (go_at_call 9; refine (alive3_any _).mono ?_; rintro e W1 ⟨rfl, hb⟩)
  have hP1 := hP.keep hb
  have hA1 := hA.keep hb
  have hB1 := hB.keep hb
  have hw1 := ab_trans hw hb
  clear hP hA hB hw hb
  have x0 := cls_cell hP1.two.1 hP1.lt
  have x1 := cls_cell hP1.two.2 hP1.lt
  have x2 := cls_cell hA1.two.1 hA1.lt
  have x3 := cls_cell hA1.two.2 hA1.lt
  have x4 := cls_cell hB1.two.1 hB1.lt
  have x5 := cls_cell hB1.two.2 hB1.lt
  refine wp_region_below (by kernel_rfl) (by kernel_rfl) ?_
  have HZ := cls_some W1
  repeat (go_big_quiet_step (first
      | (go_at_call 12; exact calls_below (pless_any _ _ _ _ _))))
  refine wpQuiet_nil ?_
  rintro _ ⟨x, rfl⟩
  obtain ⟨W2, hb⟩ := x
  dsimp only
  have hP2 := hP1.keep hb
  have hA2 := hA1.keep hb
  have hB2 := hB1.keep hb
  have hw2 := ab_trans hw1 hb
  clear hP1 hA1 hB1 hw1 hb x0 x1 x2 x3 x4 x5 HZ
  go_upto_region 4 with fail
  have x0 := cls_cell hP2.two.1 hP2.lt
  have x1 := cls_cell hP2.two.2 hP2.lt
  have x2 := cls_cell hA2.two.1 hA2.lt
  have x3 := cls_cell hA2.two.2 hA2.lt
  have x4 := cls_cell hB2.two.1 hB2.lt
  have x5 := cls_cell hB2.two.2 hB2.lt
  have HC : (pl a0 a1 b0 b1 = true ∧ pl b0 b1 a0 a1 = false ∧ (decide (a0 = b0) && decide (a1 = b1)) = false) ∨ (pl a0 a1 b0 b1 = false ∧ pl b0 b1 a0 a1 = true ∧ (decide (a0 = b0) && decide (a1 = b1)) = false) ∨ (pl a0 a1 b0 b1 = false ∧ pl b0 b1 a0 a1 = false ∧ a0 = b0 ∧ a1 = b1) := by
    cases h1 : pl a0 a1 b0 b1
    · cases h2 : pl b0 b1 a0 a1
      · exact .inr (.inr ⟨rfl, rfl, H3.out h1 h2⟩)
      · obtain ⟨-, h⟩ := H2.out h2
        refine .inr (.inl ⟨rfl, rfl, ?_⟩)
        rw [← h]; congr 1 <;> rw [decide_eq_decide] <;> omega
    · obtain ⟨h2, h⟩ := H1.out h1
      exact .inl ⟨rfl, h2, h⟩
  clear H1 H2 H3
  have HZ := cls_some W2
  rcases HC with ⟨h1, h2, h3⟩ | ⟨h1, h2, h3⟩ | ⟨h1, h2, rfl, rfl⟩
  all_goals
    rw [h1] at HT
    first | rw [h1, h2] | rw [h1]
    refine wp_region_below (by kernel_rfl) (by kernel_rfl) ?_
    repeat (go_big_quiet_step (first
      | (go_at_call 12; exact calls_below (pless_any _ _ _ _ _))
      | (go_at_call 15; exact calls_below (least_any _))))
    refine wpQuiet_nil ?_
    rintro _ ⟨x, rfl⟩
    obtain ⟨W3, hb⟩ := x
    dsimp only
    have hP3 := hP2.keep hb
    have hA3 := hA2.keep hb
    have hB3 := hB2.keep hb
    have hw3 := ab_trans hw2 hb
    clear hP2 hA2 hB2 hw2 hb x0 x1 x2 x3 x4 x5 HZ hS hL h1 h2
    try clear h3
    go_upto_region 6 with fail
  all_goals
    cases h4 : pl p0 p1 a0 a1
    all_goals
      rw [h4] at HT
      try (have h5 := HT.out rfl rfl)
      obtain ⟨c0, c1⟩ := hP3.two
      obtain ⟨c2, c3⟩ := hA3.two
      go_upto_region 8 with (first
        | (go_at_call 12; refine (pless_any _ _ _ _ W3).mono ?_; rintro e W4 ⟨rfl, b4⟩; rw [h4]; have hP4 := hP3.keep b4; have hA4 := hA3.keep b4; have hB4 := hB3.keep b4; have hw4 := ab_trans hw3 b4; obtain ⟨d0, d1⟩ := hP4.two; obtain ⟨d2, d3⟩ := hB4.two; clear hP3 hA3 hB3 hw3 b4 c0 c1 c2 c3)
        | (go_at_call 12; refine (pless_any _ _ _ _ W4).mono ?_; rintro e W5 ⟨rfl, b4⟩; have hP4 := hP4.keep b4; have hA4 := hA4.keep b4; have hw4 := ab_trans hw4 b4; clear b4 d0 d1 d2 d3))
      try clear d0 d1 d2 d3
      clear HT
      obtain ⟨c0, c1⟩ := hP4.two
      go_upto_region 9 with (go_at_call 10; refine (after_any p0 p1 _ u0.1 u0.2 u1.1 u1.2).mono ?_; rintro e W6 ⟨rfl, hb⟩)
      obtain ⟨W7, hE, hN, hb7⟩ := blk1 W6 #[.int .i64 (afW p0 p1), .int .i64 (afK p0 p1)] 23
      rw [hE]
      have hP7 := hP4.keep (ab_trans hb hb7)
      have hA7 := hA4.keep (ab_trans hb hb7)
      have hw7 := ab_trans hw4 (ab_trans hb hb7)
      clear hE hb hb7 hP4 hA4 hw4 c0 c1
      generalize W6.heap.size = N at *
      have hp := hP7.lt
      have hn := hN.lt
      have ha := hA7.lt
      have c0 := fun (W : World) (h : Below W7.heap.size W7 W) => (h.cell (p := ⟨w.heap.size, 0, none⟩) hp).trans hP7.two.1
      have c1 := fun (W : World) (h : Below W7.heap.size W7 W) => (h.cell (p := ⟨w.heap.size, 1, none⟩) hp).trans hP7.two.2
      have c2 := fun (W : World) (h : Below W7.heap.size W7 W) => (h.cell (p := ⟨N, 0, none⟩) hn).trans hN.two.1
      have c3 := fun (W : World) (h : Below W7.heap.size W7 W) => (h.cell (p := ⟨N, 1, none⟩) hn).trans hN.two.2
      have c4 := fun (W : World) (h : Below W7.heap.size W7 W) => (h.cell (p := ⟨w.heap.size + 1, 0, none⟩) ha).trans hA7.two.1
      have c5 := fun (W : World) (h : Below W7.heap.size W7 W) => (h.cell (p := ⟨w.heap.size + 1, 1, none⟩) ha).trans hA7.two.2
      have b7 : Below W7.heap.size W7 W7 := Below.refl _ _
      clear hP7 hN hA7 hp hn ha
      cases hk : afB p0 p1
      · obtain ⟨e1, e2, e3⟩ := HX.out hk
        have e4 := e3 a0 a1 v0.2 v1.2
        rw [e1] at c2
        rw [e2] at c3
        clear HN HX e1 e2 e3
        first
        | (rw [h4] at e4; cases e4; done)
        | (clear h4
           go_wp2_with (go_at_call 12; refine (pless_any _ _ _ _ _).mono ?_; rintro e W8 ⟨rfl, b8⟩; rw [e4])
           go_ret
           exact ⟨rfl, ab_trans hw7 b8⟩)
      · obtain ⟨e1, e2⟩ := HN.out hk
        have e3 : pw p0 p1 p0 p1 (afW p0 p1) (afK p0 p1) = true := by unfold pw; rw [pl_self, e1]; rfl
        have e4 := e2 a0 a1 v1.1 v1.2
        rw [h4] at e4
        clear HN HX e2
        generalize afW p0 p1 = n0 at *
        generalize afK p0 p1 = n1 at *
        go_wp2_with (first
          | (go_at_call 12; refine (pless_any _ _ _ _ _).mono ?_; rintro e W8 ⟨rfl, b8⟩; have b7 := ab_trans b7 b8; (try rw [e1]); (try rw [h4]); (try rw [e4 rfl]))
          | (go_at_call 14; refine (within_any _ _ _ _ _ _ _).mono ?_; rintro e W8 ⟨rfl, b8⟩; have b7 := ab_trans b7 b8; rw [e3]))
        go_ret
        exact ⟨rfl, ab_trans hw7 b7⟩

theorem own : ownKnob Try.prog.godebug = none := by kernel_rfl
theorem laidOut : laidOutB Try.prog = true := by kernel_rfl

set_option maxRecDepth 100000 in
theorem lifted (os : Os) (started : os.Started) (H : Type) (enc : TypeId × Value → H) :
    ReturnsInHanded {} Try.checked os 4 .any (Rows.placeStrictSpec.pre6 enc Try.prog Try.f4 Rows.placeStrictRow.domain false) (Rows.placeStrictSpec.post enc Try.prog Try.f4 false true false false) := by
  refine returnsInHanded_of_change (C := Try.checked) own started (by kernel_rfl) Try.func4
    (ChangeSpec.witness6 (enc := enc) (C := Try.checked) false ⟨#[], #[.agg #[.int .i64 0, .int .i64 0], .agg #[.int .i64 0, .int .i64 0], .agg #[.int .i64 0, .int .i64 0]], []⟩ 8 (by kernel_rfl) (by kernel_rfl) (by kernel_rfl) (by kernel_rfl)) ?_
  intro W base args ds gs before hval0 hW hcnd _
  have hval : ∀ (j : Nat) t v, Try.f4.params[j]? = some t → args[j]? = some v → Value.okWide Try.prog W .any base t v := hval0
  have hW' := hW
  obtain ⟨p, q, hA0, hV, rfl, hfz, hnd⟩ := hW
  have hA : DataW.TrodAll enc Try.prog W 0 (fun _ => true) true Try.f4.params.toList args.toList ds p := hA0
  rw [Try.params4] at hA hval
  obtain ⟨v0, vs0, d0, ds0, p0, q0, hargs, rfl, rfl, h0, r0⟩ := trodAll_cons hA
  obtain ⟨v1, vs1, d1, ds1, p1, q1, rfl, rfl, rfl, h1, r1⟩ := trodAll_cons r0
  obtain ⟨v2, vs2, d2, ds2, p2, q2, rfl, rfl, rfl, h2, r2⟩ := trodAll_cons r1
  obtain ⟨rfl, rfl, rfl⟩ := trodAll_nil r2
  obtain rfl : args = #[v0, v1, v2] := by cases args; simp_all
  obtain ⟨rfl, rfl⟩ := trodVars_none hV
  have k0 := h0
  have lt0 : ∀ x ∈ p0, x.block < W.heap.size := by obtain ⟨m, hm⟩ := k0; exact DataW.trod_lt m _ _ _ hm
  have k1 := h1
  have lt1 : ∀ x ∈ p1, x.block < W.heap.size := by obtain ⟨m, hm⟩ := k1; exact DataW.trod_lt m _ _ _ hm
  have k2 := h2
  have lt2 : ∀ x ∈ p2, x.block < W.heap.size := by obtain ⟨m, hm⟩ := k2; exact DataW.trod_lt m _ _ _ hm
  obtain ⟨c0_0, c0_1, y0_0, y0_1, m0, rfl, rfl, rfl, hy0_0, hy0_1⟩ := open_agg2 Try.underlying23 (by kernel_rfl) (by kernel_rfl) (hval 0 23 v0 rfl rfl) h0
  obtain ⟨a0_0, e0_0, rfl, w0_0⟩ := DataW.trod_int Try.underlying3 hy0_0
  simp at e0_0; subst e0_0
  obtain ⟨a0_1, e0_1, rfl, w0_1⟩ := DataW.trod_int Try.underlying3 hy0_1
  simp at e0_1; subst e0_1
  obtain ⟨c1_0, c1_1, y1_0, y1_1, m1, rfl, rfl, rfl, hy1_0, hy1_1⟩ := open_agg2 Try.underlying23 (by kernel_rfl) (by kernel_rfl) (hval 1 23 v1 rfl rfl) h1
  obtain ⟨a1_0, e1_0, rfl, w1_0⟩ := DataW.trod_int Try.underlying3 hy1_0
  simp at e1_0; subst e1_0
  obtain ⟨a1_1, e1_1, rfl, w1_1⟩ := DataW.trod_int Try.underlying3 hy1_1
  simp at e1_1; subst e1_1
  obtain ⟨c2_0, c2_1, y2_0, y2_1, m2, rfl, rfl, rfl, hy2_0, hy2_1⟩ := open_agg2 Try.underlying23 (by kernel_rfl) (by kernel_rfl) (hval 2 23 v2 rfl rfl) h2
  obtain ⟨a2_0, e2_0, rfl, w2_0⟩ := DataW.trod_int Try.underlying3 hy2_0
  simp at e2_0; subst e2_0
  obtain ⟨a2_1, e2_1, rfl, w2_1⟩ := DataW.trod_int Try.underlying3 hy2_1
  simp at e2_1; subst e2_1
  clear hA0 hval0
  refine (walk a0_0 (bounds_i64 w0_0) a0_1 (bounds_i64 w0_1) a1_0 (bounds_i64 w1_0) a1_1 (bounds_i64 w1_1) a2_0 (bounds_i64 w2_0) a2_1 (bounds_i64 w2_1) W).mono fun e W' ⟨he, bel⟩ => ?_
  subst he
  exact ⟨_, rfl, _, _, _, [], _, [], hW', trodAll_mk1 (shut_bool Try.underlying4 _), (trodAll_cons_mk (Below.trod laidOut (by kernel_rfl) (of_decide_eq_true (by kernel_rfl)) k0 bel lt0) (trodAll_cons_mk (Below.trod laidOut (by kernel_rfl) (of_decide_eq_true (by kernel_rfl)) k1 bel lt1) (trodAll_cons_mk (Below.trod laidOut (by kernel_rfl) (of_decide_eq_true (by kernel_rfl)) k2 bel lt2) trodAll_mk0))), rfl, bel.frame _, fun h => by cases h⟩

theorem over : Rows.placeStrictRow.holds Try.pinned (OpenSpec.ofChange Rows.placeStrictSpec) :=
  OpenClaim.holds_of_wide 4 Try.f4 rfl rfl rfl rfl rfl rfl rfl ⟨rfl, rfl, rfl, rfl, rfl⟩ rfl rfl rfl rfl rfl (by kernel_rfl) Try.func4 (by kernel_rfl)
    (of_decide_eq_true (by kernel_rfl)) (by unfold Func.isWrapper; first | (rw [if_pos (by decide +kernel)]; kernel_rfl) | (rw [if_neg (by decide +kernel)]; exact ⟨rfl, rfl⟩))
    (fun os started H enc _ => lifted os started H enc)

theorem proved : Rows.PlaceStrictSaid := over
end Go.Proofs.Ytffgndmcamedaaa.placeStrict
namespace Go.Proofs.Ytffgndmcamedaaa
theorem placeStrict_holds : Rows.PlaceStrictSaid := placeStrict.proved
#print axioms placeStrict_holds
end Go.Proofs.Ytffgndmcamedaaa
