/-
  Which batch comes next, both ways: estuarylaw17.GateBatches returns true for every input; no condition.
-/
import Derived.Test.YtclfdagenaaalaaGreatPk54
import Derived.Test.YtclfdagenaaalaaGreatPk47
import Derived.Test.YtclfdagenaaalaaGreatPk10
import Derived.ProofKit
import Derived.OpenShut
import Derived.ChangeOld
import Derived.Below
namespace Go.Proofs.YtclfdagenaaalaaGreat.gateBatches
open Go.ChangeShapes Go.WideShapes Go.ChangeAt Go.RowKit Go.Joins
set_option linter.unusedVariables false
set_option maxRecDepth 100000

theorem next_any (v : Value) (ops : List Op5) (r mark : Int) (b0 b1 ep ln mo : Int) (w : World) (hv : ER E5 w v ops) (hf : ∀ o ∈ ops, Fit5 o) (hr : J64 r) (hm : J64 mark) (hb : J64 b0 ∧ J64 b1) :
    Calls Tryz.prog 5 #[.agg #[v, .int .i64 r, .int .i64 mark, .int .i64 b0, .int .i64 b1], .int .i64 ep, .int .i64 ln, .int .i64 mo] w fun e w' => e = .returned (.bool true) ∧ Below w.heap.size w w' := by
  by_cases c : r < 1 ∨ 150 < ops.length
  · exact nx_out v ops r mark b0 b1 ep ln mo w hv c
  · exact nx_in v ops r mark b0 b1 ep ln mo w hv hf ⟨by omega, hr.2⟩ hm hb (by omega)
theorem walk {W : World} (v : Value) (ops : List Op5) (hv : ER E5 W v ops) (hf : ∀ o ∈ ops, Fit5 o) (r : Int) (hr : -9223372036854775808 ≤ r ∧ r ≤ 9223372036854775807) (mark : Int) (hm : -9223372036854775808 ≤ mark ∧ mark ≤ 9223372036854775807) (b0 : Int) (h0 : -9223372036854775808 ≤ b0 ∧ b0 ≤ 9223372036854775807) (b1 : Int) (h1 : -9223372036854775808 ≤ b1 ∧ b1 ≤ 9223372036854775807) (ep : Int) (h2 : -9223372036854775808 ≤ ep ∧ ep ≤ 9223372036854775807) (ln : Int) (h3 : -9223372036854775808 ≤ ln ∧ ln ≤ 9223372036854775807) (mo : Int) (h4 : -9223372036854775808 ≤ mo ∧ mo ≤ 9223372036854775807) :
    Calls Tryz.prog 3 #[.agg #[v, .int .i64 r, .int .i64 mark, .int .i64 b0, .int .i64 b1, .int .i64 ep, .int .i64 ln, .int .i64 mo]] W fun e w' => e = .returned (.bool true) ∧ Below W.heap.size W w' := by
  have HN := fun (V : World) (hV : Below W.heap.size W V) => next_any v ops r mark b0 b1 ep ln mo V (hv.keep hV) hf hr hm ⟨h0, h1⟩
  obtain ⟨A, hAe, hX, hw⟩ := blk1 W #[v, .int .i64 r, .int .i64 mark, .int .i64 b0, .int .i64 b1, .int .i64 ep, .int .i64 ln, .int .i64 mo] 28
  have x0 : A.cell? ⟨W.heap.size, 0, none⟩ = some v := hX.at rfl
  have x1 : A.cell? ⟨W.heap.size, 1, none⟩ = some (.int .i64 r) := hX.at rfl
  have x2 : A.cell? ⟨W.heap.size, 2, none⟩ = some (.int .i64 mark) := hX.at rfl
  have x3 : A.cell? ⟨W.heap.size, 3, none⟩ = some (.int .i64 b0) := hX.at rfl
  have x4 : A.cell? ⟨W.heap.size, 4, none⟩ = some (.int .i64 b1) := hX.at rfl
  have x5 : A.cell? ⟨W.heap.size, 5, none⟩ = some (.int .i64 ep) := hX.at rfl
  have x6 : A.cell? ⟨W.heap.size, 6, none⟩ = some (.int .i64 ln) := hX.at rfl
  have x7 : A.cell? ⟨W.heap.size, 7, none⟩ = some (.int .i64 mo) := hX.at rfl
  clear hX
  go_enter Tryz.func3, Tryz.ntmps3
  go_upto_region 1 with fail
  clear hAe
  go_wp2_with (go_at_call 5; refine (HN _ hw).mono ?_; rintro e W1 ⟨rfl, b1'⟩)
  go_ret
  exact ⟨rfl, ab_trans hw b1'⟩
theorem own : ownKnob Tryz.prog.godebug = none := by kernel_rfl
theorem laidOut : laidOutB Tryz.prog = true := by kernel_rfl

set_option maxRecDepth 100000 in
theorem lifted (os : Os) (started : os.Started) (H : Type) (enc : TypeId × Value → H) :
    ReturnsInHanded {} Tryz.checked os 3 .any (Rows.gateBatchesSpec.pre6 enc Tryz.prog Tryz.f3 Rows.gateBatchesRow.domain false) (Rows.gateBatchesSpec.post enc Tryz.prog Tryz.f3 false true false false) := by
  refine returnsInHanded_of_change (C := Tryz.checked) own started (by kernel_rfl) Tryz.func3
    (ChangeSpec.witness6 (enc := enc) (C := Tryz.checked) false ⟨#[], #[.agg #[.slice none 0 0, .int .i64 0, .int .i64 0, .int .i64 0, .int .i64 0, .int .i64 0, .int .i64 0, .int .i64 0]], []⟩ 8 (by kernel_rfl) (by kernel_rfl) (by kernel_rfl) (by kernel_rfl)) ?_
  intro W base args ds gs before hval0 hW hcnd _
  have hval : ∀ (j : Nat) t v, Tryz.f3.params[j]? = some t → args[j]? = some v → Value.okWide Tryz.prog W .any base t v := hval0
  have hW' := hW
  obtain ⟨p, q, hA0, hV, rfl, hfz, hnd⟩ := hW
  have hA : DataW.TrodAll enc Tryz.prog W 0 (fun _ => true) true Tryz.f3.params.toList args.toList ds p := hA0
  rw [Tryz.params3] at hA hval
  obtain ⟨v0, vs0, d0, ds0, p0, q0, hargs, rfl, rfl, h0, r0⟩ := trodAll_cons hA
  obtain ⟨rfl, rfl, rfl⟩ := trodAll_nil r0
  obtain rfl : args = #[v0] := by cases args; simp_all
  obtain ⟨rfl, rfl⟩ := trodVars_none hV
  have k0 := h0
  have lt0 : ∀ x ∈ p0, x.block < W.heap.size := by obtain ⟨m, hm⟩ := k0; exact DataW.trod_lt m _ _ _ hm
  obtain ⟨cs0, rfl, hz0, fm0, hx0⟩ := open_struct (n := 8) Tryz.underlying28 (by kernel_rfl) (hval 0 28 v0 rfl rfl) h0
  obtain ⟨e0_0, e0_1, e0_2, e0_3, e0_4, e0_5, e0_6, e0_7, rfl⟩ : ∃ e0_0 e0_1 e0_2 e0_3 e0_4 e0_5 e0_6 e0_7, cs0 = #[e0_0, e0_1, e0_2, e0_3, e0_4, e0_5, e0_6, e0_7] := by
    refine ⟨cs0[0], cs0[1], cs0[2], cs0[3], cs0[4], cs0[5], cs0[6], cs0[7], ?_⟩
    apply Array.ext
    · simpa using hz0
    · intro i h1 h2
      have : i = 0 ∨ i = 1 ∨ i = 2 ∨ i = 3 ∨ i = 4 ∨ i = 5 ∨ i = 6 ∨ i = 7 := by omega
      rcases this with rfl | rfl | rfl | rfl | rfl | rfl | rfl | rfl <;> rfl
  obtain ⟨fy0_0, fg0_0⟩ := hx0 0 _ rfl
  obtain ⟨fm0_0, hx0_0⟩ := struct_in Tryz.underlying26 fg0_0
  obtain ⟨fy0_0_0, fg0_0_0⟩ := hx0_0 0 _ rfl
  obtain ⟨sq0_0, sg0_0, so0_0, sn0_0, sk0_0, sl0_0, ee0_0, hl0_0, hk0_0, hm0_0, hp0_0, hg0_0, hc0_0⟩ := rows_of (n := 5) (D := 8) (fun _ => .i64) Tryz.underlying22 (by kernel_rfl) (by omega) (kinds_of (by kernel_rfl)) fg0_0_0
  obtain rfl : e0_0 = .slice sq0_0 sn0_0 sk0_0 := by have h9 : [e0_0] = [Value.slice sq0_0 sn0_0 sk0_0] := ee0_0; simpa using h9
  obtain ⟨S0_0_, B0_0_⟩ := er_rows5 hl0_0 hk0_0 hm0_0 hp0_0 hg0_0 hc0_0
  obtain ⟨fy0_0_1, fg0_0_1⟩ := hx0_0 1 _ rfl
  obtain ⟨a0_1, ea0_1, w0_1⟩ := flat_cell 8 _ 3 _ _ 0 .i64 fg0_0_1 (by kernel_rfl)
  obtain rfl : e0_1 = .int .i64 a0_1 := by have h9 : ([e0_1] : List Value)[0]? = some (Value.int .i64 a0_1) := ea0_1; simpa using h9
  obtain ⟨fy0_0_2, fg0_0_2⟩ := hx0_0 2 _ rfl
  obtain ⟨a0_2, ea0_2, w0_2⟩ := flat_cell 8 _ 3 _ _ 0 .i64 fg0_0_2 (by kernel_rfl)
  obtain rfl : e0_2 = .int .i64 a0_2 := by have h9 : ([e0_2] : List Value)[0]? = some (Value.int .i64 a0_2) := ea0_2; simpa using h9
  obtain ⟨fy0_0_3, fg0_0_3⟩ := hx0_0 3 _ rfl
  obtain ⟨a0_3, ea0_3, w0_3⟩ := flat_cell 8 _ 24 _ _ 0 .i64 fg0_0_3 (by kernel_rfl)
  obtain rfl : e0_3 = .int .i64 a0_3 := by have h9 : ([e0_3, e0_4] : List Value)[0]? = some (Value.int .i64 a0_3) := ea0_3; simpa using h9
  obtain ⟨a0_4, ea0_4, w0_4⟩ := flat_cell 8 _ 24 _ _ 1 .i64 fg0_0_3 (by kernel_rfl)
  obtain rfl : e0_4 = .int .i64 a0_4 := by have h9 : ([.int .i64 a0_3, e0_4] : List Value)[1]? = some (Value.int .i64 a0_4) := ea0_4; simpa using h9
  obtain ⟨fy0_1, fg0_1⟩ := hx0 1 _ rfl
  obtain ⟨a0_5, ea0_5, w0_5⟩ := flat_cell 8 _ 3 _ _ 0 .i64 fg0_1 (by kernel_rfl)
  obtain rfl : e0_5 = .int .i64 a0_5 := by have h9 : ([e0_5] : List Value)[0]? = some (Value.int .i64 a0_5) := ea0_5; simpa using h9
  obtain ⟨fy0_2, fg0_2⟩ := hx0 2 _ rfl
  obtain ⟨a0_6, ea0_6, w0_6⟩ := flat_cell 8 _ 3 _ _ 0 .i64 fg0_2 (by kernel_rfl)
  obtain rfl : e0_6 = .int .i64 a0_6 := by have h9 : ([e0_6] : List Value)[0]? = some (Value.int .i64 a0_6) := ea0_6; simpa using h9
  obtain ⟨fy0_3, fg0_3⟩ := hx0 3 _ rfl
  obtain ⟨a0_7, ea0_7, w0_7⟩ := flat_cell 8 _ 3 _ _ 0 .i64 fg0_3 (by kernel_rfl)
  obtain rfl : e0_7 = .int .i64 a0_7 := by have h9 : ([e0_7] : List Value)[0]? = some (Value.int .i64 a0_7) := ea0_7; simpa using h9
  clear hA0 hval0
  refine (walk (.slice sq0_0 sn0_0 sk0_0) _ S0_0_ B0_0_ a0_1 (bounds_i64 w0_1) a0_2 (bounds_i64 w0_2) a0_3 (bounds_i64 w0_3) a0_4 (bounds_i64 w0_4) a0_5 (bounds_i64 w0_5) a0_6 (bounds_i64 w0_6) a0_7 (bounds_i64 w0_7)).mono fun e W' ⟨he, bel⟩ => ?_
  subst he
  exact ⟨_, rfl, _, _, _, [], _, [], hW', trodAll_mk1 (shut_bool Tryz.underlying4 _), (trodAll_cons_mk (Below.trod laidOut (by kernel_rfl) (of_decide_eq_true (by kernel_rfl)) k0 bel lt0) trodAll_mk0), rfl, bel.frame _, fun h => by cases h⟩

theorem over : Rows.gateBatchesRow.holds Tryz.pinned (OpenSpec.ofChange Rows.gateBatchesSpec) :=
  OpenClaim.holds_of_wide 3 Tryz.f3 rfl rfl rfl rfl rfl rfl rfl ⟨rfl, rfl, rfl, rfl, rfl⟩ rfl rfl rfl rfl rfl (by kernel_rfl) Tryz.func3 (by kernel_rfl)
    (of_decide_eq_true (by kernel_rfl)) (by unfold Func.isWrapper; first | (rw [if_pos (by decide +kernel)]; kernel_rfl) | (rw [if_neg (by decide +kernel)]; exact ⟨rfl, rfl⟩))
    (fun os started H enc _ => lifted os started H enc)

theorem proved : Rows.GateBatchesSaid := over
end Go.Proofs.YtclfdagenaaalaaGreat.gateBatches
namespace Go.Proofs.YtclfdagenaaalaaGreat
theorem gateBatches_holds : Rows.GateBatchesSaid := gateBatches.proved
#print axioms gateBatches_holds
end Go.Proofs.YtclfdagenaaalaaGreat
