/-
  A nil tape answers what the chapter says: estuarylaw06.TapeNone returns true for every input; no condition.
-/
import Derived.Test.YtoofgidmegplbaaTpG
import Derived.ProofKit
import Derived.OpenShut
import Derived.ChangeOld
import Derived.Below
import Derived.Lib.SmallJoins
namespace Go.Proofs.Ytoofgidmegplbaa.tapeNone
open Go.ChangeShapes Go.WideShapes Go.ChangeAt Go.RowKit Go.Joins
set_option linter.unusedVariables false

theorem eq55 (w : World) : (binOp .eql 40 (Err 5) (Err 5)).run Try.prog w = .ok (.bool true) w := by kernel_rfl
theorem eq11 (w : World) : (binOp .eql 40 (Err 1) (Err 1)).run Try.prog w = .ok (.bool true) w := by kernel_rfl
theorem flat1l (a : List Nat) : [a].flatten = a := by simp
set_option maxRecDepth 100000 in
set_option maxHeartbeats 1000000 in
theorem walk {W : World} (v0 : Value) (a : List Nat) (S0 : Sl W v0 a) (B0 : Byt a) (n : Int) (hn : -9223372036854775808 ≤ n ∧ n ≤ 9223372036854775807) :
    Calls Try.prog 8 #[v0, .int .i64 n] W fun e w' => e = .returned (.bool true) ∧ Below W.heap.size W w' := by
  obtain ⟨q0, c0, e0, -⟩ := id S0
  subst e0
  go_enter Try.func8, Try.ntmps8
  go_upto_region 3 with (go_at_call 9; refine (alive6_any _).mono ?_; rintro e V1 ⟨rfl, hb1⟩)
  have S01 := S0.keep hb1
  have HF1 : Hid ([a].flatten = a) := flat1l a
  have h55 := eq55
  have h11 := eq11
  generalize hna : a.length = na at *
  by_cases hbig : 1048576 < na
  · go_wp2_with fail
    go_ret
    exact ⟨rfl, hb1⟩
  · go_wp2_with (first
      | (go_at_call 26; refine (cut_nil _).mono ?_; rintro e X ⟨rfl, hX⟩; subst X)
      | (go_at_call 20; refine (crash_nil _ _).mono ?_; rintro e X ⟨rfl, hX⟩; subst X)
      | (refine bs_ls rfl rfl [_] [a] (by simp only [List.map_toArray, List.map_cons, List.map_nil]; rfl) (bsl1 _ _ _ _) rfl (by decide) rfl (each1 S01) ?_; intro V2 hls2 hb2 hbk2)
      | (go_at_call 18; refine (append_nil _ _ _ _ hls2 (by rw [HF1.out, hna]; omega)).mono ?_; rintro e X ⟨rfl, hX⟩; subst X)
      | (go_at_call 19; refine (sync_nil _).mono ?_; rintro e X ⟨rfl, hX⟩; subst X)
      | (go_at_call 25; refine (replace_nil _ _ _ _ (by omega)).mono ?_; rintro e X ⟨rfl, hX⟩; subst X)
      | (go_at_call 21; refine (arm_nil _ _).mono ?_; rintro e X ⟨rfl, hX⟩; subst X)
      | (go_at_call 22; refine (fail_nil _ _).mono ?_; rintro e X ⟨rfl, hX⟩; subst X)
      | (go_at_call 16; refine (read_nil _).mono ?_; rintro e X ⟨rfl, hX⟩; subst X)
      | (go_at_call 13; refine (sure_nil _).mono ?_; rintro e X ⟨rfl, hX⟩; subst X)
      | (go_at_call 14; refine (steps_nil _).mono ?_; rintro e X ⟨rfl, hX⟩; subst X)
      | (go_at_call 15; refine (down_nil _).mono ?_; rintro e X ⟨rfl, hX⟩; subst X))
    go_ret
    exact ⟨rfl, ab_trans hb1 hb2⟩

theorem own : ownKnob Try.prog.godebug = none := by kernel_rfl
theorem laidOut : laidOutB Try.prog = true := by kernel_rfl

set_option maxRecDepth 100000 in
theorem lifted (os : Os) (started : os.Started) (H : Type) (enc : TypeId × Value → H) :
    ReturnsInHanded {} Try.checked os 8 .any (Rows.tapeNoneSpec.pre6 enc Try.prog Try.f8 Rows.tapeNoneRow.domain false) (Rows.tapeNoneSpec.post enc Try.prog Try.f8 false true false false) := by
  refine returnsInHanded_of_change (C := Try.checked) own started (by kernel_rfl) Try.func8
    (ChangeSpec.witness6 (enc := enc) (C := Try.checked) false ⟨#[], #[.slice none 0 0, .int .i64 0], []⟩ 8 (by kernel_rfl) (by kernel_rfl) (by kernel_rfl) (by kernel_rfl)) ?_
  intro W base args ds gs before hval0 hW hcnd _
  have hval : ∀ (j : Nat) t v, Try.f8.params[j]? = some t → args[j]? = some v → Value.okWide Try.prog W .any base t v := hval0
  have hW' := hW
  obtain ⟨p, q, hA0, hV, rfl, hfz, hnd⟩ := hW
  have hA : DataW.TrodAll enc Try.prog W 0 (fun _ => true) true Try.f8.params.toList args.toList ds p := hA0
  rw [Try.params8] at hA hval
  obtain ⟨v0, vs0, d0, ds0, p0, q0, hargs, rfl, rfl, h0, r0⟩ := trodAll_cons hA
  obtain ⟨v1, vs1, d1, ds1, p1, q1, rfl, rfl, rfl, h1, r1⟩ := trodAll_cons r0
  obtain ⟨rfl, rfl, rfl⟩ := trodAll_nil r1
  obtain rfl : args = #[v0, v1] := by cases args; simp_all
  obtain ⟨rfl, rfl⟩ := trodVars_none hV
  have k0 := h0
  have lt0 : ∀ x ∈ p0, x.block < W.heap.size := by obtain ⟨m, hm⟩ := k0; exact DataW.trod_lt m _ _ _ hm
  have k1 := h1
  have lt1 : ∀ x ∈ p1, x.block < W.heap.size := by obtain ⟨m, hm⟩ := k1; exact DataW.trod_lt m _ _ _ hm
  obtain ⟨l0_, S0_, B0_⟩ := open_bytes (hval 0 30 v0 rfl rfl) h0
  obtain ⟨a1, rfl, rfl, rfl, w1⟩ := open_int Try.underlying3 (hval 1 3 v1 rfl rfl) h1
  clear hA0 hval0
  refine (walk v0 l0_ S0_ B0_ a1 (bounds_i64 w1)).mono fun e W' ⟨he, bel⟩ => ?_
  subst he
  exact ⟨_, rfl, _, _, _, [], _, [], hW', trodAll_mk1 (shut_bool Try.underlying4 _), (trodAll_cons_mk (Below.trod laidOut (by kernel_rfl) (of_decide_eq_true (by kernel_rfl)) k0 bel lt0) (trodAll_cons_mk (Below.trod laidOut (by kernel_rfl) (of_decide_eq_true (by kernel_rfl)) k1 bel lt1) trodAll_mk0)), rfl, bel.frame _, fun h => by cases h⟩

theorem over : Rows.tapeNoneRow.holds Try.pinned (OpenSpec.ofChange Rows.tapeNoneSpec) :=
  OpenClaim.holds_of_wide 8 Try.f8 rfl rfl rfl rfl rfl rfl rfl ⟨rfl, rfl, rfl, rfl, rfl⟩ rfl rfl rfl rfl rfl (by kernel_rfl) Try.func8 (by kernel_rfl)
    (of_decide_eq_true (by kernel_rfl)) (by unfold Func.isWrapper; first | (rw [if_pos (by decide +kernel)]; kernel_rfl) | (rw [if_neg (by decide +kernel)]; exact ⟨rfl, rfl⟩))
    (fun os started H enc _ => lifted os started H enc)

theorem proved : Rows.TapeNoneSaid := over
end Go.Proofs.Ytoofgidmegplbaa.tapeNone
namespace Go.Proofs.Ytoofgidmegplbaa
theorem tapeNone_holds : Rows.TapeNoneSaid := tapeNone.proved
#print axioms tapeNone_holds
end Go.Proofs.Ytoofgidmegplbaa
