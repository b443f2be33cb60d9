/-
  Which node is what: estuarylaw19.PlanRoles returns true for every input; no condition.
-/
import Derived.Test.YtnooedipanhkjaaPlR0
import Derived.Test.YtnooedipanhkjaaFrL
import Derived.Test.YtnooedipanhkjaaMixed
import Derived.ProofKit
import Derived.OpenShut
import Derived.ChangeOld
import Derived.Below
namespace Go.Proofs.Ytnooedipanhkjaa.planRoles
open Go.ChangeShapes Go.WideShapes Go.ChangeAt Go.RowKit Go.Joins
set_option linter.unusedVariables false
set_option maxRecDepth 100000

set_option maxHeartbeats 4000000 in
theorem walk {W : World} (so : Int) (hso : -9223372036854775808 ≤ so ∧ so ≤ 9223372036854775807) (ke : Int) (hke : -9223372036854775808 ≤ ke ∧ ke ≤ 9223372036854775807) (v : Value) (l : List Int) (hv : Is W v l) (hl : In64 l) (sh : Int) (hsh : -9223372036854775808 ≤ sh ∧ sh ≤ 9223372036854775807) (ho : Int) (hho : -9223372036854775808 ≤ ho ∧ ho ≤ 9223372036854775807) (ce : Int) (hce : -9223372036854775808 ≤ ce ∧ ce ≤ 9223372036854775807) (ba : Int) (hba : -9223372036854775808 ≤ ba ∧ ba ≤ 9223372036854775807) (le : Int) (hle : -9223372036854775808 ≤ le ∧ le ≤ 9223372036854775807) (r : Int) (hr : -9223372036854775808 ≤ r ∧ r ≤ 9223372036854775807) (i : Int) (hi : -9223372036854775808 ≤ i ∧ i ≤ 9223372036854775807) (nd : Int) (hnd : -9223372036854775808 ≤ nd ∧ nd ≤ 9223372036854775807) :
    Calls Try.prog 4 #[.agg #[.int .i64 so, .int .i64 ke, v, .int .i64 sh, .int .i64 ho, .int .i64 ce, .int .i64 ba, .int .i64 le, .int .i64 r, .int .i64 i, .int .i64 nd]] W fun e w' => e = .returned (.bool true) ∧ Below W.heap.size W w' := by
  have HN := fun (V : World) (hV : Below W.heap.size W V) => nodes_any ⟨so, ke, v, l, sh, ho, ce, ba, le⟩ r i nd V (hv.keep hV) hnd.1 hnd.2
  obtain ⟨A, hAe, hX, hw⟩ := blk1 W #[.int .i64 so, .int .i64 ke, v, .int .i64 sh, .int .i64 ho, .int .i64 ce, .int .i64 ba, .int .i64 le, .int .i64 r, .int .i64 i, .int .i64 nd] 35
  have x0 : A.cell? ⟨W.heap.size, 0, none⟩ = some (.int .i64 so) := hX.at rfl
  have x1 : A.cell? ⟨W.heap.size, 1, none⟩ = some (.int .i64 ke) := hX.at rfl
  have x2 : A.cell? ⟨W.heap.size, 2, none⟩ = some v := hX.at rfl
  have x3 : A.cell? ⟨W.heap.size, 3, none⟩ = some (.int .i64 sh) := hX.at rfl
  have x4 : A.cell? ⟨W.heap.size, 4, none⟩ = some (.int .i64 ho) := hX.at rfl
  have x5 : A.cell? ⟨W.heap.size, 5, none⟩ = some (.int .i64 ce) := hX.at rfl
  have x6 : A.cell? ⟨W.heap.size, 6, none⟩ = some (.int .i64 ba) := hX.at rfl
  have x7 : A.cell? ⟨W.heap.size, 7, none⟩ = some (.int .i64 le) := hX.at rfl
  have x8 : A.cell? ⟨W.heap.size, 8, none⟩ = some (.int .i64 r) := hX.at rfl
  have x9 : A.cell? ⟨W.heap.size, 9, none⟩ = some (.int .i64 i) := hX.at rfl
  have x10 : A.cell? ⟨W.heap.size, 10, none⟩ = some (.int .i64 nd) := hX.at rfl
  clear hX
  go_enter Try.func4, Try.ntmps4
  go_upto_region 1 with fail
  clear hAe
  go_wp2_with (go_at_call 15; refine (HN _ hw).mono ?_; rintro e W1 ⟨rfl, b1⟩)
  go_ret
  exact ⟨rfl, ab_trans hw b1⟩
theorem own : ownKnob Try.prog.godebug = none := by kernel_rfl
theorem laidOut : laidOutB Try.prog = true := by kernel_rfl

set_option maxRecDepth 100000 in
theorem lifted (os : Os) (started : os.Started) (H : Type) (enc : TypeId × Value → H) :
    ReturnsInHanded {} Try.checked os 4 .any (Rows.planRolesSpec.pre6 enc Try.prog Try.f4 Rows.planRolesRow.domain false) (Rows.planRolesSpec.post enc Try.prog Try.f4 false true false false) := by
  refine returnsInHanded_of_change (C := Try.checked) own started (by kernel_rfl) Try.func4
    (ChangeSpec.witness6 (enc := enc) (C := Try.checked) false ⟨#[], #[.agg #[.int .i64 0, .int .i64 0, .slice none 0 0, .int .i64 0, .int .i64 0, .int .i64 0, .int .i64 0, .int .i64 0, .int .i64 0, .int .i64 0, .int .i64 0]], []⟩ 8 (by kernel_rfl) (by kernel_rfl) (by kernel_rfl) (by kernel_rfl)) ?_
  intro W base args ds gs before hval0 hW hcnd _
  have hval : ∀ (j : Nat) t v, Try.f4.params[j]? = some t → args[j]? = some v → Value.okWide Try.prog W .any base t v := hval0
  have hW' := hW
  obtain ⟨p, q, hA0, hV, rfl, hfz, hnd⟩ := hW
  have hA : DataW.TrodAll enc Try.prog W 0 (fun _ => true) true Try.f4.params.toList args.toList ds p := hA0
  rw [Try.params4] at hA hval
  obtain ⟨v0, vs0, d0, ds0, p0, q0, hargs, rfl, rfl, h0, r0⟩ := trodAll_cons hA
  obtain ⟨rfl, rfl, rfl⟩ := trodAll_nil r0
  obtain rfl : args = #[v0] := by cases args; simp_all
  obtain ⟨rfl, rfl⟩ := trodVars_none hV
  have k0 := h0
  have lt0 : ∀ x ∈ p0, x.block < W.heap.size := by obtain ⟨m, hm⟩ := k0; exact DataW.trod_lt m _ _ _ hm
  obtain ⟨cs0, rfl, hz0, fm0, hx0⟩ := open_struct (n := 11) Try.underlying35 (by kernel_rfl) (hval 0 35 v0 rfl rfl) h0
  obtain ⟨e0_0, e0_1, e0_2, e0_3, e0_4, e0_5, e0_6, e0_7, e0_8, e0_9, e0_10, rfl⟩ : ∃ e0_0 e0_1 e0_2 e0_3 e0_4 e0_5 e0_6 e0_7 e0_8 e0_9 e0_10, cs0 = #[e0_0, e0_1, e0_2, e0_3, e0_4, e0_5, e0_6, e0_7, e0_8, e0_9, e0_10] := by
    refine ⟨cs0[0], cs0[1], cs0[2], cs0[3], cs0[4], cs0[5], cs0[6], cs0[7], cs0[8], cs0[9], cs0[10], ?_⟩
    apply Array.ext
    · simpa using hz0
    · intro i h1 h2
      have : i = 0 ∨ i = 1 ∨ i = 2 ∨ i = 3 ∨ i = 4 ∨ i = 5 ∨ i = 6 ∨ i = 7 ∨ i = 8 ∨ i = 9 ∨ i = 10 := by omega
      rcases this with rfl | rfl | rfl | rfl | rfl | rfl | rfl | rfl | rfl | rfl | rfl <;> rfl
  obtain ⟨fy0_0, fg0_0⟩ := hx0 0 _ rfl
  obtain ⟨fm0_0, hx0_0⟩ := struct_in Try.underlying24 fg0_0
  obtain ⟨fy0_0_0, fg0_0_0⟩ := hx0_0 0 _ rfl
  obtain ⟨a0_0, ea0_0, w0_0⟩ := flat_cell 8 _ 3 _ _ 0 .i64 fg0_0_0 (by kernel_rfl)
  obtain rfl : e0_0 = .int .i64 a0_0 := by have h9 : ([e0_0] : List Value)[0]? = some (Value.int .i64 a0_0) := ea0_0; simpa using h9
  obtain ⟨fy0_0_1, fg0_0_1⟩ := hx0_0 1 _ rfl
  obtain ⟨a0_1, ea0_1, w0_1⟩ := flat_cell 8 _ 3 _ _ 0 .i64 fg0_0_1 (by kernel_rfl)
  obtain rfl : e0_1 = .int .i64 a0_1 := by have h9 : ([e0_1] : List Value)[0]? = some (Value.int .i64 a0_1) := ea0_1; simpa using h9
  obtain ⟨fy0_0_2, fg0_0_2⟩ := hx0_0 2 _ rfl
  obtain ⟨sq0_2, sg0_2, so0_2, sn0_2, sk0_2, sl0_2, ee0_2, hl0_2, hk0_2, hm0_2, hp0_2, hg0_2, hc0_2⟩ := rows_of (n := 1) (D := 8) (fun _ => .i64) Try.underlying22 (by kernel_rfl) (by omega) (kinds_of (by kernel_rfl)) fg0_0_2
  obtain rfl : e0_2 = .slice sq0_2 sn0_2 sk0_2 := by have h9 : [e0_2] = [Value.slice sq0_2 sn0_2 sk0_2] := ee0_2; simpa using h9
  obtain ⟨S0_2_, B0_2_⟩ := is_rows hl0_2 hk0_2 hm0_2 hp0_2 hg0_2 hc0_2
  obtain ⟨fy0_0_3, fg0_0_3⟩ := hx0_0 3 _ rfl
  obtain ⟨a0_3, ea0_3, w0_3⟩ := flat_cell 8 _ 3 _ _ 0 .i64 fg0_0_3 (by kernel_rfl)
  obtain rfl : e0_3 = .int .i64 a0_3 := by have h9 : ([e0_3] : List Value)[0]? = some (Value.int .i64 a0_3) := ea0_3; simpa using h9
  obtain ⟨fy0_0_4, fg0_0_4⟩ := hx0_0 4 _ rfl
  obtain ⟨a0_4, ea0_4, w0_4⟩ := flat_cell 8 _ 3 _ _ 0 .i64 fg0_0_4 (by kernel_rfl)
  obtain rfl : e0_4 = .int .i64 a0_4 := by have h9 : ([e0_4] : List Value)[0]? = some (Value.int .i64 a0_4) := ea0_4; simpa using h9
  obtain ⟨fy0_0_5, fg0_0_5⟩ := hx0_0 5 _ rfl
  obtain ⟨a0_5, ea0_5, w0_5⟩ := flat_cell 8 _ 3 _ _ 0 .i64 fg0_0_5 (by kernel_rfl)
  obtain rfl : e0_5 = .int .i64 a0_5 := by have h9 : ([e0_5] : List Value)[0]? = some (Value.int .i64 a0_5) := ea0_5; simpa using h9
  obtain ⟨fy0_0_6, fg0_0_6⟩ := hx0_0 6 _ rfl
  obtain ⟨a0_6, ea0_6, w0_6⟩ := flat_cell 8 _ 3 _ _ 0 .i64 fg0_0_6 (by kernel_rfl)
  obtain rfl : e0_6 = .int .i64 a0_6 := by have h9 : ([e0_6] : List Value)[0]? = some (Value.int .i64 a0_6) := ea0_6; simpa using h9
  obtain ⟨fy0_0_7, fg0_0_7⟩ := hx0_0 7 _ rfl
  obtain ⟨a0_7, ea0_7, w0_7⟩ := flat_cell 8 _ 3 _ _ 0 .i64 fg0_0_7 (by kernel_rfl)
  obtain rfl : e0_7 = .int .i64 a0_7 := by have h9 : ([e0_7] : List Value)[0]? = some (Value.int .i64 a0_7) := ea0_7; simpa using h9
  obtain ⟨fy0_1, fg0_1⟩ := hx0 1 _ rfl
  obtain ⟨a0_8, ea0_8, w0_8⟩ := flat_cell 8 _ 3 _ _ 0 .i64 fg0_1 (by kernel_rfl)
  obtain rfl : e0_8 = .int .i64 a0_8 := by have h9 : ([e0_8] : List Value)[0]? = some (Value.int .i64 a0_8) := ea0_8; simpa using h9
  obtain ⟨fy0_2, fg0_2⟩ := hx0 2 _ rfl
  obtain ⟨a0_9, ea0_9, w0_9⟩ := flat_cell 8 _ 3 _ _ 0 .i64 fg0_2 (by kernel_rfl)
  obtain rfl : e0_9 = .int .i64 a0_9 := by have h9 : ([e0_9] : List Value)[0]? = some (Value.int .i64 a0_9) := ea0_9; simpa using h9
  obtain ⟨fy0_3, fg0_3⟩ := hx0 3 _ rfl
  obtain ⟨a0_10, ea0_10, w0_10⟩ := flat_cell 8 _ 3 _ _ 0 .i64 fg0_3 (by kernel_rfl)
  obtain rfl : e0_10 = .int .i64 a0_10 := by have h9 : ([e0_10] : List Value)[0]? = some (Value.int .i64 a0_10) := ea0_10; simpa using h9
  clear hA0 hval0
  refine (walk a0_0 (bounds_i64 w0_0) a0_1 (bounds_i64 w0_1) (.slice sq0_2 sn0_2 sk0_2) _ S0_2_ B0_2_ a0_3 (bounds_i64 w0_3) a0_4 (bounds_i64 w0_4) a0_5 (bounds_i64 w0_5) a0_6 (bounds_i64 w0_6) a0_7 (bounds_i64 w0_7) a0_8 (bounds_i64 w0_8) a0_9 (bounds_i64 w0_9) a0_10 (bounds_i64 w0_10)).mono fun e W' ⟨he, bel⟩ => ?_
  subst he
  exact ⟨_, rfl, _, _, _, [], _, [], hW', trodAll_mk1 (shut_bool Try.underlying4 _), (trodAll_cons_mk (Below.trod laidOut (by kernel_rfl) (of_decide_eq_true (by kernel_rfl)) k0 bel lt0) trodAll_mk0), rfl, bel.frame _, fun h => by cases h⟩

theorem over : Rows.planRolesRow.holds Try.pinned (OpenSpec.ofChange Rows.planRolesSpec) :=
  OpenClaim.holds_of_wide 4 Try.f4 rfl rfl rfl rfl rfl rfl rfl ⟨rfl, rfl, rfl, rfl, rfl⟩ rfl rfl rfl rfl rfl (by kernel_rfl) Try.func4 (by kernel_rfl)
    (of_decide_eq_true (by kernel_rfl)) (by unfold Func.isWrapper; first | (rw [if_pos (by decide +kernel)]; kernel_rfl) | (rw [if_neg (by decide +kernel)]; exact ⟨rfl, rfl⟩))
    (fun os started H enc _ => lifted os started H enc)

theorem proved : Rows.PlanRolesSaid := over
end Go.Proofs.Ytnooedipanhkjaa.planRoles
namespace Go.Proofs.Ytnooedipanhkjaa
theorem planRoles_holds : Rows.PlanRolesSaid := planRoles.proved
#print axioms planRoles_holds
end Go.Proofs.Ytnooedipanhkjaa
