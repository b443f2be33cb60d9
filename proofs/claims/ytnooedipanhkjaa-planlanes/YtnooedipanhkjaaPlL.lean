/-
  The lane of every resolution and key: estuarylaw19.PlanLanes returns true for every input; no condition.
-/
import Derived.Test.YtnooedipanhkjaaPnH
import Derived.Test.YtnooedipanhkjaaFrL
import Derived.Test.YtnooedipanhkjaaMixed
import Derived.ProofKit
import Derived.OpenShut
import Derived.ChangeOld
import Derived.Below
namespace Go.Proofs.Ytnooedipanhkjaa.planLanes
open Go.ChangeShapes Go.WideShapes Go.ChangeAt Go.RowKit Go.Joins
set_option linter.unusedVariables false
set_option maxRecDepth 100000

theorem la_ok (p : Pn) (i key : Int) : laF p i key = (0, false) ∨ ∃ n, laF p i key = (n, true) ∧ 0 ≤ n ∧ n < lnP p := by
  unfold laF
  split
  · rename_i h
    obtain ⟨hg, h0, h1⟩ := h
    obtain ⟨-, -, hl, hs1, hs4⟩ := gd_bd hg
    obtain ⟨f0, f1⟩ := pnM_bd key hs1
    refine .inr ⟨_, rfl, ?_, ?_⟩
    · have := Int.mul_nonneg h0 (show (0 : Int) ≤ p.sh by omega)
      omega
    · unfold lnP
      rw [if_pos hg]
      have h2 : (i + 1) * p.sh ≤ (p.l.length : Int) * p.sh := Int.mul_le_mul_of_nonneg_right (by omega) (by omega)
      rw [Int.add_mul, Int.one_mul] at h2
      omega
  · exact .inl rfl
set_option maxHeartbeats 8000000 in
theorem lanes_any (p : Pn) (i key : Int) (W : World) (hv : Is W p.v p.l) (k0 : -9223372036854775808 ≤ key) (k1 : key ≤ 9223372036854775807) :
    Calls Try.prog 6 #[pnV p, .int .i64 i, .int .i64 key] W fun e w' => e = .returned (.bool true) ∧ Below W.heap.size W w' := by
  have HC := fun (V : World) (hV : Below W.heap.size W V) => plane_any p i key V (hv.keep hV) k0 k1
  have HR := fun (V : World) (hV : Below W.heap.size W V) => rlane_any p i key V (hv.keep hV) k0 k1
  have HLn := fun (V : World) (hV : Below W.heap.size W V) => planes_any p V (hv.keep hV)
  obtain ⟨q, cap, ev⟩ := hv.form
  have hla := la_ok p i key
  generalize lnP p = LN at *
  generalize laF p i key = LA at *
  obtain ⟨A, hAe, hX, hw⟩ := blk1 W (pnC p) 24
  obtain ⟨n, hn⟩ : ∃ n, p.l.length = n := ⟨_, rfl⟩
  go_enter Try.func6, Try.ntmps6
  go_upto_region 1 with fail
  clear hAe
  go_upto_region 3 with (go_at_call 8; refine (alive19_any _).mono ?_; rintro e W1 ⟨rfl, b1⟩)
  have hX1 := hX.keep b1
  have hw1 := ab_trans hw b1
  have x2 : W1.cell? ⟨W.heap.size, 2, none⟩ = some p.v := hX1.at rfl
  rw [ev, hn] at x2
  clear hX hw b1
  by_cases c : (1000 : Int) < (n : Int)
  · clear HC HR HLn
    go_wp2_with fail
    go_ret
    exact ⟨rfl, hw1⟩
  go_upto_region 6 with (first
    | (refine lw_pn (p := p) rfl rfl rfl hX1 ?_)
    | (go_at_call 19; refine (HC _ hw1).mono ?_; rintro e W2 ⟨rfl, b2⟩))
  have hX2 := hX1.keep b2
  have hw2 := ab_trans hw1 b2
  clear hX1 hw1 b2 x2 HC
  go_upto_region 7 with (first
    | (refine lw_pn (p := p) rfl rfl rfl hX2 ?_)
    | (go_at_call 20; refine (HR _ hw2).mono ?_; rintro e W3 ⟨rfl, b3⟩))
  have hX3 := hX2.keep b3
  have hw3 := ab_trans hw2 b3
  clear hX2 hw2 b3 HR
  rcases hla with rfl | ⟨m, rfl, hm0, hm1⟩
  · clear HLn
    go_wp2_with fail
    go_ret
    exact ⟨rfl, hw3⟩
  · have hmm : (m == m) = true := by simp
    go_wp2_with (first
      | (refine lw_pn (p := p) rfl rfl rfl hX3 ?_)
      | (go_at_call 11; refine (HLn _ hw3).mono ?_; rintro e W4 ⟨rfl, b4⟩))
    go_ret
    exact ⟨rfl, ab_trans hw3 b4⟩
theorem walk {W : World} (so : Int) (hso : -9223372036854775808 ≤ so ∧ so ≤ 9223372036854775807) (ke : Int) (hke : -9223372036854775808 ≤ ke ∧ ke ≤ 9223372036854775807) (v : Value) (l : List Int) (hv : Is W v l) (hl : In64 l) (sh : Int) (hsh : -9223372036854775808 ≤ sh ∧ sh ≤ 9223372036854775807) (ho : Int) (hho : -9223372036854775808 ≤ ho ∧ ho ≤ 9223372036854775807) (ce : Int) (hce : -9223372036854775808 ≤ ce ∧ ce ≤ 9223372036854775807) (ba : Int) (hba : -9223372036854775808 ≤ ba ∧ ba ≤ 9223372036854775807) (le : Int) (hle : -9223372036854775808 ≤ le ∧ le ≤ 9223372036854775807) (i : Int) (hi : -9223372036854775808 ≤ i ∧ i ≤ 9223372036854775807) (key : Int) (hk : -9223372036854775808 ≤ key ∧ key ≤ 9223372036854775807) :
    Calls Try.prog 6 #[.agg #[.int .i64 so, .int .i64 ke, v, .int .i64 sh, .int .i64 ho, .int .i64 ce, .int .i64 ba, .int .i64 le], .int .i64 i, .int .i64 key] W fun e w' => e = .returned (.bool true) ∧ Below W.heap.size W w' := lanes_any ⟨so, ke, v, l, sh, ho, ce, ba, le⟩ i key W hv hk.1 hk.2
theorem own : ownKnob Try.prog.godebug = none := by kernel_rfl
theorem laidOut : laidOutB Try.prog = true := by kernel_rfl

set_option maxRecDepth 100000 in
theorem lifted (os : Os) (started : os.Started) (H : Type) (enc : TypeId × Value → H) :
    ReturnsInHanded {} Try.checked os 6 .any (Rows.planLanesSpec.pre6 enc Try.prog Try.f6 Rows.planLanesRow.domain false) (Rows.planLanesSpec.post enc Try.prog Try.f6 false true false false) := by
  refine returnsInHanded_of_change (C := Try.checked) own started (by kernel_rfl) Try.func6
    (ChangeSpec.witness6 (enc := enc) (C := Try.checked) false ⟨#[], #[.agg #[.int .i64 0, .int .i64 0, .slice none 0 0, .int .i64 0, .int .i64 0, .int .i64 0, .int .i64 0, .int .i64 0], .int .i64 0, .int .i64 0], []⟩ 8 (by kernel_rfl) (by kernel_rfl) (by kernel_rfl) (by kernel_rfl)) ?_
  intro W base args ds gs before hval0 hW hcnd _
  have hval : ∀ (j : Nat) t v, Try.f6.params[j]? = some t → args[j]? = some v → Value.okWide Try.prog W .any base t v := hval0
  have hW' := hW
  obtain ⟨p, q, hA0, hV, rfl, hfz, hnd⟩ := hW
  have hA : DataW.TrodAll enc Try.prog W 0 (fun _ => true) true Try.f6.params.toList args.toList ds p := hA0
  rw [Try.params6] at hA hval
  obtain ⟨v0, vs0, d0, ds0, p0, q0, hargs, rfl, rfl, h0, r0⟩ := trodAll_cons hA
  obtain ⟨v1, vs1, d1, ds1, p1, q1, rfl, rfl, rfl, h1, r1⟩ := trodAll_cons r0
  obtain ⟨v2, vs2, d2, ds2, p2, q2, rfl, rfl, rfl, h2, r2⟩ := trodAll_cons r1
  obtain ⟨rfl, rfl, rfl⟩ := trodAll_nil r2
  obtain rfl : args = #[v0, v1, v2] := by cases args; simp_all
  obtain ⟨rfl, rfl⟩ := trodVars_none hV
  have k0 := h0
  have lt0 : ∀ x ∈ p0, x.block < W.heap.size := by obtain ⟨m, hm⟩ := k0; exact DataW.trod_lt m _ _ _ hm
  have k1 := h1
  have lt1 : ∀ x ∈ p1, x.block < W.heap.size := by obtain ⟨m, hm⟩ := k1; exact DataW.trod_lt m _ _ _ hm
  have k2 := h2
  have lt2 : ∀ x ∈ p2, x.block < W.heap.size := by obtain ⟨m, hm⟩ := k2; exact DataW.trod_lt m _ _ _ hm
  obtain ⟨cs0, rfl, hz0, fm0, hx0⟩ := open_struct (n := 8) Try.underlying24 (by kernel_rfl) (hval 0 24 v0 rfl rfl) h0
  obtain ⟨e0_0, e0_1, e0_2, e0_3, e0_4, e0_5, e0_6, e0_7, rfl⟩ : ∃ e0_0 e0_1 e0_2 e0_3 e0_4 e0_5 e0_6 e0_7, cs0 = #[e0_0, e0_1, e0_2, e0_3, e0_4, e0_5, e0_6, e0_7] := by
    refine ⟨cs0[0], cs0[1], cs0[2], cs0[3], cs0[4], cs0[5], cs0[6], cs0[7], ?_⟩
    apply Array.ext
    · simpa using hz0
    · intro i h1 h2
      have : i = 0 ∨ i = 1 ∨ i = 2 ∨ i = 3 ∨ i = 4 ∨ i = 5 ∨ i = 6 ∨ i = 7 := by omega
      rcases this with rfl | rfl | rfl | rfl | rfl | rfl | rfl | rfl <;> rfl
  obtain ⟨fy0_0, fg0_0⟩ := hx0 0 _ rfl
  obtain ⟨a0_0, ea0_0, w0_0⟩ := flat_cell 8 _ 3 _ _ 0 .i64 fg0_0 (by kernel_rfl)
  obtain rfl : e0_0 = .int .i64 a0_0 := by have h9 : ([e0_0] : List Value)[0]? = some (Value.int .i64 a0_0) := ea0_0; simpa using h9
  obtain ⟨fy0_1, fg0_1⟩ := hx0 1 _ rfl
  obtain ⟨a0_1, ea0_1, w0_1⟩ := flat_cell 8 _ 3 _ _ 0 .i64 fg0_1 (by kernel_rfl)
  obtain rfl : e0_1 = .int .i64 a0_1 := by have h9 : ([e0_1] : List Value)[0]? = some (Value.int .i64 a0_1) := ea0_1; simpa using h9
  obtain ⟨fy0_2, fg0_2⟩ := hx0 2 _ rfl
  obtain ⟨sq0_2, sg0_2, so0_2, sn0_2, sk0_2, sl0_2, ee0_2, hl0_2, hk0_2, hm0_2, hp0_2, hg0_2, hc0_2⟩ := rows_of (n := 1) (D := 8) (fun _ => .i64) Try.underlying22 (by kernel_rfl) (by omega) (kinds_of (by kernel_rfl)) fg0_2
  obtain rfl : e0_2 = .slice sq0_2 sn0_2 sk0_2 := by have h9 : [e0_2] = [Value.slice sq0_2 sn0_2 sk0_2] := ee0_2; simpa using h9
  obtain ⟨S0_2_, B0_2_⟩ := is_rows hl0_2 hk0_2 hm0_2 hp0_2 hg0_2 hc0_2
  obtain ⟨fy0_3, fg0_3⟩ := hx0 3 _ rfl
  obtain ⟨a0_3, ea0_3, w0_3⟩ := flat_cell 8 _ 3 _ _ 0 .i64 fg0_3 (by kernel_rfl)
  obtain rfl : e0_3 = .int .i64 a0_3 := by have h9 : ([e0_3] : List Value)[0]? = some (Value.int .i64 a0_3) := ea0_3; simpa using h9
  obtain ⟨fy0_4, fg0_4⟩ := hx0 4 _ rfl
  obtain ⟨a0_4, ea0_4, w0_4⟩ := flat_cell 8 _ 3 _ _ 0 .i64 fg0_4 (by kernel_rfl)
  obtain rfl : e0_4 = .int .i64 a0_4 := by have h9 : ([e0_4] : List Value)[0]? = some (Value.int .i64 a0_4) := ea0_4; simpa using h9
  obtain ⟨fy0_5, fg0_5⟩ := hx0 5 _ rfl
  obtain ⟨a0_5, ea0_5, w0_5⟩ := flat_cell 8 _ 3 _ _ 0 .i64 fg0_5 (by kernel_rfl)
  obtain rfl : e0_5 = .int .i64 a0_5 := by have h9 : ([e0_5] : List Value)[0]? = some (Value.int .i64 a0_5) := ea0_5; simpa using h9
  obtain ⟨fy0_6, fg0_6⟩ := hx0 6 _ rfl
  obtain ⟨a0_6, ea0_6, w0_6⟩ := flat_cell 8 _ 3 _ _ 0 .i64 fg0_6 (by kernel_rfl)
  obtain rfl : e0_6 = .int .i64 a0_6 := by have h9 : ([e0_6] : List Value)[0]? = some (Value.int .i64 a0_6) := ea0_6; simpa using h9
  obtain ⟨fy0_7, fg0_7⟩ := hx0 7 _ rfl
  obtain ⟨a0_7, ea0_7, w0_7⟩ := flat_cell 8 _ 3 _ _ 0 .i64 fg0_7 (by kernel_rfl)
  obtain rfl : e0_7 = .int .i64 a0_7 := by have h9 : ([e0_7] : List Value)[0]? = some (Value.int .i64 a0_7) := ea0_7; simpa using h9
  obtain ⟨a1, rfl, rfl, rfl, w1⟩ := open_int Try.underlying3 (hval 1 3 v1 rfl rfl) h1
  obtain ⟨a2, rfl, rfl, rfl, w2⟩ := open_int Try.underlying3 (hval 2 3 v2 rfl rfl) h2
  clear hA0 hval0
  refine (walk a0_0 (bounds_i64 w0_0) a0_1 (bounds_i64 w0_1) (.slice sq0_2 sn0_2 sk0_2) _ S0_2_ B0_2_ a0_3 (bounds_i64 w0_3) a0_4 (bounds_i64 w0_4) a0_5 (bounds_i64 w0_5) a0_6 (bounds_i64 w0_6) a0_7 (bounds_i64 w0_7) a1 (bounds_i64 w1) a2 (bounds_i64 w2)).mono fun e W' ⟨he, bel⟩ => ?_
  subst he
  exact ⟨_, rfl, _, _, _, [], _, [], hW', trodAll_mk1 (shut_bool Try.underlying4 _), (trodAll_cons_mk (Below.trod laidOut (by kernel_rfl) (of_decide_eq_true (by kernel_rfl)) k0 bel lt0) (trodAll_cons_mk (Below.trod laidOut (by kernel_rfl) (of_decide_eq_true (by kernel_rfl)) k1 bel lt1) (trodAll_cons_mk (Below.trod laidOut (by kernel_rfl) (of_decide_eq_true (by kernel_rfl)) k2 bel lt2) trodAll_mk0))), rfl, bel.frame _, fun h => by cases h⟩

theorem over : Rows.planLanesRow.holds Try.pinned (OpenSpec.ofChange Rows.planLanesSpec) :=
  OpenClaim.holds_of_wide 6 Try.f6 rfl rfl rfl rfl rfl rfl rfl ⟨rfl, rfl, rfl, rfl, rfl⟩ rfl rfl rfl rfl rfl (by kernel_rfl) Try.func6 (by kernel_rfl)
    (of_decide_eq_true (by kernel_rfl)) (by unfold Func.isWrapper; first | (rw [if_pos (by decide +kernel)]; kernel_rfl) | (rw [if_neg (by decide +kernel)]; exact ⟨rfl, rfl⟩))
    (fun os started H enc _ => lifted os started H enc)

theorem proved : Rows.PlanLanesSaid := over
end Go.Proofs.Ytnooedipanhkjaa.planLanes
namespace Go.Proofs.Ytnooedipanhkjaa
theorem planLanes_holds : Rows.PlanLanesSaid := planLanes.proved
#print axioms planLanes_holds
end Go.Proofs.Ytnooedipanhkjaa
