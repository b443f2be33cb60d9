/-
  A mark closes no place of a sample whose time isn't below it, and every place of a window that ends ahead of it: estuarylaw03.PlaceCloses returns true for every input; no condition.
-/
import Derived.Test.YtffgndmcamedaaaAlive3
import Derived.Test.YtffgndmcamedaaaFlat
import Derived.ProofKit
import Derived.OpenShut
import Derived.ChangeOld
import Derived.Below
import Derived.Lib.SmallJoins
namespace Go.Proofs.Ytffgndmcamedaaa.placeCloses
open Go.ChangeShapes Go.WideShapes Go.ChangeAt Go.RowKit Go.Joins
set_option linter.unusedVariables false
theorem fold (p : Prop) [Decidable p] (b : Bool) (w : World) : (if p then Result.ok b w else Result.ok false w) = Result.ok (decide p && b) w := by
  by_cases h : p <;> simp [h]
attribute [local go_sem] fold

theorem closes (t m r : Int) (h : 1 ≤ r) : t / r < m / r ↔ t + (r - 1 - t % r) < m := by
  have e := Int.mul_ediv_add_emod t r
  have k : t / r + 1 ≤ m / r ↔ (t / r + 1) * r ≤ m := Int.le_ediv_iff_mul_le (by omega)
  rw [Int.add_mul, Int.one_mul, Int.mul_comm] at k
  constructor
  · intro h1
    have := k.1 (by omega)
    omega
  · intro h1
    have := k.2 (by omega)
    omega
theorem pl_min (a k b : Int) (hk : -9223372036854775808 ≤ k) : pl a k b (-9223372036854775808) = decide (a < b) := by
  unfold pl; rw [decide_eq_decide]; omega

set_option maxRecDepth 100000 in
set_option maxHeartbeats 1000000 in
theorem walk5 (s0 s1 t key s4 : Int) (ht : -9223372036854775808 ≤ t ∧ t ≤ 9223372036854775807) (hk : -9223372036854775808 ≤ key ∧ key ≤ 9223372036854775807) (m : Int) (hm : -9223372036854775808 ≤ m ∧ m ≤ 9223372036854775807) (r : Int) (hr : -9223372036854775808 ≤ r ∧ r ≤ 9223372036854775807) (w : World) :
    Calls Try.prog 7 #[Opv s0 s1 t key s4, .int .i64 m, .int .i64 r] w fun e w' => e = .returned (.bool true) ∧ Below w.heap.size w w' := by
  go_enter Try.func7, Try.ntmps7
  go_upto_region 1 with fail
  obtain ⟨A, hAe, hO, hw⟩ := blk1 w #[.int .i64 s0, .int .i64 s1, .int .i64 t, .int .i64 key, .int .i64 s4] 31
  rw [hAe]
  clear hAe
  go_upto_region 3 with (go_at_call 9; refine (alive3_any _).mono ?_; rintro e W1 ⟨rfl, hb⟩)
  go_upto_region 4 with (go_at_call 20; refine (closed_any m r _ hm.1 hm.2 hr.2).mono ?_; rintro e W2 ⟨rfl, hb2⟩)
  obtain ⟨W3, hE, hC, hb3⟩ := blk1 W2 #[.int .i64 (flD m r), .int .i64 (-9223372036854775808)] 23
  rw [hE]
  have hO3 := hO.keep (ab_trans hb (ab_trans hb2 hb3))
  have hw3 := ab_trans hw (ab_trans hb (ab_trans hb2 hb3))
  clear hE hb hb2 hb3 hO hw
  generalize W2.heap.size = C at *
  have x0 := cls_cell hC.two.1 hC.lt
  have x1 := cls_cell hC.two.2 hC.lt
  refine wp_region_below (by kernel_rfl) (by kernel_rfl) ?_
  have HZ := cls_some W3
  repeat (go_big_quiet_step (first | (go_at_call 21; exact calls_below (rclosed_any m r _ hm.1 hm.2 hr.2))))
  refine wpQuiet_nil ?_
  rintro _ ⟨x, rfl⟩
  obtain ⟨W4, hb⟩ := x
  dsimp only
  have hO4 := hO3.keep hb
  have hC4 := hC.keep hb
  have hw4 := ab_trans hw3 hb
  clear hO3 hC hw3 hb x0 x1 HZ
  by_cases g : r < 1
  · go_wp2_with fail
    go_ret
    exact ⟨rfl, hw4⟩
  · obtain ⟨z0, z1, z2, z3, z4⟩ := hO4.five
    go_upto_region 9 with (first
      | (refine bs_own rfl rfl [r] (by simp only [List.map_toArray, List.map_cons, List.map_nil]; rfl) (isl1 _ _) rfl (by decide) ?_; intro W5 hN b5 z5; obtain ⟨-, q5, g5, cap5, e5, hq5, hg5, -, -, hr5⟩ := own_irow hN; cases e5; have hq5' := hq5 (by omega); cases hq5')
      | (go_at_call 18; refine (ids_any s0 s1 t key s4 _ _ 0 1 1 [r] 1 _ rfl (by omega) (fun _ => rfl) hg5 hr5 ht.1 ht.2 hk.1 hk.2 (by omega) (fun j x h => by have := List.mem_of_getElem? h; simp at this; omega)).mono ?_; rintro e W6 ⟨v, rfl, hown, hv, b6⟩; obtain ⟨-, q6, g6, cap6, rfl, hq6, hg6, -, -, -, -, hr6, -⟩ := own_row3 hown; cases hq6 (by omega); obtain ⟨y0, y1, y2⟩ := hr6 0 _ rfl))
    have i1 : (idAt t key 1 0 r).snd.fst = flD t r := rfl
    have i2 : (idAt t key 1 0 r).snd.snd = key := rfl
    rw [i1, i2]
    obtain ⟨W7, hE, hP, hb7⟩ := blk1 W6 #[.int .i64 (flD t r), .int .i64 key] 23
    rw [hE]
    have hb47 := ab_trans b5 (ab_trans b6 hb7)
    have hO7 := hO4.keep hb47
    have hC7 := hC4.keep hb47
    have hw7 := ab_trans hw4 hb47
    clear hE hb47 hb7 b5 b6 hN hr5 hg5 hq5 hown hv hr6 hq6 hg6 y0 y1 y2 z0 z1 z2 z3 z4 z5 hO4 hC4 hw4 i1 i2
    generalize W6.heap.size = P at *
    obtain ⟨p0, p1⟩ := hP.two
    obtain ⟨c0, c1⟩ := hC7.two
    have hpl := pl_min (flD t r) key (flD m r) hk.1
    go_upto_region 10 with (go_at_call 12; refine (pless_any _ _ _ _ _).mono ?_; rintro e W8 ⟨rfl, b8⟩; rw [hpl])
    have hO8 := hO7.keep b8
    have hw8 := ab_trans hw7 b8
    clear hO7 hC7 hP hw7 b8 p0 p1 c0 c1 hpl
    obtain ⟨-, -, z2, -, -⟩ := hO8.five
    have hcl := closes t m r (by omega)
    have f0 := Int.emod_nonneg t (b := r) (by omega)
    have f1 := Int.emod_lt_of_pos t (b := r) (by omega)
    have hD : flD t r = t / r := by unfold flD; rw [if_neg (by omega)]
    have hE : flD m r = m / r := by unfold flD; rw [if_neg (by omega)]
    have hF : flM t r = t % r := by unfold flM; rw [if_neg (by omega)]
    have hge : m ≤ t → ¬ t / r < m / r := fun h => by have := Int.ediv_le_ediv (c := r) (by omega) h; omega
    rw [hD, hE]
    generalize t / r = D at *
    generalize m / r = E at *
    generalize t % r = F at *
    clear hD hE
    by_cases c : D < E
    · have c' : decide (D < E) = true := decide_eq_true c
      have l1 := hcl.1 c
      have l2 : decide (m ≤ t) = false := decide_eq_false (fun h => hge h c)
      have l3 : decide (9223372036854775807 - (r - 1 - F) < t) = false := decide_eq_false (by omega)
      have l4 : decide (t + (r - 1 - F) < m) = true := decide_eq_true l1
      rw [c']
      clear c hcl hge
      go_wp2_with (go_at_call 22; refine (rmod_any _ _ _ ht.1 ht.2 hr.2).mono ?_; rintro e W9 ⟨rfl, rfl⟩; rw [hF])
      go_ret
      exact ⟨rfl, hw8⟩
    · have c' : decide (D < E) = false := decide_eq_false c
      have l1 : ¬ t + (r - 1 - F) < m := fun h => c (hcl.2 h)
      have l4 : decide (t + (r - 1 - F) < m) = false := decide_eq_false l1
      rw [c']
      clear c hcl hge
      by_cases d : m ≤ t <;> by_cases f : 9223372036854775807 - (r - 1 - F) < t
      all_goals
        go_wp2_with (go_at_call 22; refine (rmod_any _ _ _ ht.1 ht.2 hr.2).mono ?_; rintro e W9 ⟨rfl, rfl⟩; rw [hF])
        go_ret
        exact ⟨rfl, hw8⟩
theorem walk (c : Nat → Int) (hc : ∀ j, j < 5 → (Lit.int ((fun _ => IntKind.i64) j) (c j)).wf = true) (m : Int) (hm : -9223372036854775808 ≤ m ∧ m ≤ 9223372036854775807) (r : Int) (hr : -9223372036854775808 ≤ r ∧ r ≤ 9223372036854775807) (w : World) :
    Calls Try.prog 7 #[.agg ((List.range 5).map fun j => Value.int ((fun _ => IntKind.i64) j) (c j)).toArray, .int .i64 m, .int .i64 r] w fun e w' => e = .returned (.bool true) ∧ Below w.heap.size w w' :=
  walk5 (c 0) (c 1) (c 2) (c 3) (c 4) (bounds_i64 (hc 2 (by omega))) (bounds_i64 (hc 3 (by omega))) m hm r hr w

theorem own : ownKnob Try.prog.godebug = none := by kernel_rfl
theorem laidOut : laidOutB Try.prog = true := by kernel_rfl

set_option maxRecDepth 100000 in
theorem lifted (os : Os) (started : os.Started) (H : Type) (enc : TypeId × Value → H) :
    ReturnsInHanded {} Try.checked os 7 .any (Rows.placeClosesSpec.pre6 enc Try.prog Try.f7 Rows.placeClosesRow.domain false) (Rows.placeClosesSpec.post enc Try.prog Try.f7 false true false false) := by
  refine returnsInHanded_of_change (C := Try.checked) own started (by kernel_rfl) Try.func7
    (ChangeSpec.witness6 (enc := enc) (C := Try.checked) false ⟨#[], #[.agg #[.int .i64 0, .int .i64 0, .int .i64 0, .int .i64 0, .int .i64 0], .int .i64 0, .int .i64 0], []⟩ 8 (by kernel_rfl) (by kernel_rfl) (by kernel_rfl) (by kernel_rfl)) ?_
  intro W base args ds gs before hval0 hW hcnd _
  have hval : ∀ (j : Nat) t v, Try.f7.params[j]? = some t → args[j]? = some v → Value.okWide Try.prog W .any base t v := hval0
  have hW' := hW
  obtain ⟨p, q, hA0, hV, rfl, hfz, hnd⟩ := hW
  have hA : DataW.TrodAll enc Try.prog W 0 (fun _ => true) true Try.f7.params.toList args.toList ds p := hA0
  rw [Try.params7] at hA hval
  obtain ⟨v0, vs0, d0, ds0, p0, q0, hargs, rfl, rfl, h0, r0⟩ := trodAll_cons hA
  obtain ⟨v1, vs1, d1, ds1, p1, q1, rfl, rfl, rfl, h1, r1⟩ := trodAll_cons r0
  obtain ⟨v2, vs2, d2, ds2, p2, q2, rfl, rfl, rfl, h2, r2⟩ := trodAll_cons r1
  obtain ⟨rfl, rfl, rfl⟩ := trodAll_nil r2
  obtain rfl : args = #[v0, v1, v2] := by cases args; simp_all
  obtain ⟨rfl, rfl⟩ := trodVars_none hV
  have k0 := h0
  have lt0 : ∀ x ∈ p0, x.block < W.heap.size := by obtain ⟨m, hm⟩ := k0; exact DataW.trod_lt m _ _ _ hm
  have k1 := h1
  have lt1 : ∀ x ∈ p1, x.block < W.heap.size := by obtain ⟨m, hm⟩ := k1; exact DataW.trod_lt m _ _ _ hm
  have k2 := h2
  have lt2 : ∀ x ∈ p2, x.block < W.heap.size := by obtain ⟨m, hm⟩ := k2; exact DataW.trod_lt m _ _ _ hm
  obtain ⟨c0, rfl, hw0⟩ := open_flat (n := 5) (D := 8) (fun _ => .i64) Try.underlying31 rfl (by kernel_rfl) (kinds_of (by kernel_rfl)) (hval 0 31 v0 rfl rfl) h0
  obtain ⟨a1, rfl, rfl, rfl, w1⟩ := open_int Try.underlying3 (hval 1 3 v1 rfl rfl) h1
  obtain ⟨a2, rfl, rfl, rfl, w2⟩ := open_int Try.underlying3 (hval 2 3 v2 rfl rfl) h2
  clear hA0 hval0
  refine (walk c0 hw0 a1 (bounds_i64 w1) a2 (bounds_i64 w2) W).mono fun e W' ⟨he, bel⟩ => ?_
  subst he
  exact ⟨_, rfl, _, _, _, [], _, [], hW', trodAll_mk1 (shut_bool Try.underlying4 _), (trodAll_cons_mk (Below.trod laidOut (by kernel_rfl) (of_decide_eq_true (by kernel_rfl)) k0 bel lt0) (trodAll_cons_mk (Below.trod laidOut (by kernel_rfl) (of_decide_eq_true (by kernel_rfl)) k1 bel lt1) (trodAll_cons_mk (Below.trod laidOut (by kernel_rfl) (of_decide_eq_true (by kernel_rfl)) k2 bel lt2) trodAll_mk0))), rfl, bel.frame _, fun h => by cases h⟩

theorem over : Rows.placeClosesRow.holds Try.pinned (OpenSpec.ofChange Rows.placeClosesSpec) :=
  OpenClaim.holds_of_wide 7 Try.f7 rfl rfl rfl rfl rfl rfl rfl ⟨rfl, rfl, rfl, rfl, rfl⟩ rfl rfl rfl rfl rfl (by kernel_rfl) Try.func7 (by kernel_rfl)
    (of_decide_eq_true (by kernel_rfl)) (by unfold Func.isWrapper; first | (rw [if_pos (by decide +kernel)]; kernel_rfl) | (rw [if_neg (by decide +kernel)]; exact ⟨rfl, rfl⟩))
    (fun os started H enc _ => lifted os started H enc)

theorem proved : Rows.PlaceClosesSaid := over
end Go.Proofs.Ytffgndmcamedaaa.placeCloses
namespace Go.Proofs.Ytffgndmcamedaaa
theorem placeCloses_holds : Rows.PlaceClosesSaid := placeCloses.proved
#print axioms placeCloses_holds
end Go.Proofs.Ytffgndmcamedaaa
