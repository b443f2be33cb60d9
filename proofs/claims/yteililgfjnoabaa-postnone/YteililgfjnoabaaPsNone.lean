/-
  A nil post answers what the chapter says: estuarylaw08.PostNone returns true for every input; no condition.
-/
import Derived.Test.YteililgfjnoabaaPoG
import Derived.ProofKit
import Derived.OpenShut
import Derived.ChangeOld
import Derived.Below
import Derived.Lib.SmallJoins
namespace Go.Proofs.Yteililgfjnoabaa.postNone
open Go.ChangeShapes Go.WideShapes Go.ChangeAt Go.RowKit Go.Joins
set_option linter.unusedVariables false

set_option maxRecDepth 100000 in
set_option maxHeartbeats 1000000 in
theorem walk {W : World} (q : Option Addr) (n c : Nat) (l : List Nat) (hZ : SlZ W (.slice q n c) l) (i : Int) (hi : I64 i) :
    Calls Try.prog 7 #[.slice q n c, .int .i64 i] W fun e w' => e = .returned (.bool true) ∧ Below W.heap.size W w' := by
  obtain ⟨S0, -, -⟩ := hZ
  go_enter Try.func7, Try.ntmps7
  go_upto_region 3 with (go_at_call 9; refine (alive8_any _).mono ?_; rintro e V1 ⟨rfl, hb1⟩)
  have S1 := S0.keep hb1
  go_upto_region 5 with (go_at_call 18; refine (deliver_nil _ _).mono ?_; rintro e X ⟨rfl, hX⟩; subst X)
  go_wp2_with (first
    | (go_at_call 14; refine (send_nil _ _).mono ?_; rintro e X ⟨rfl, hX⟩; subst X)
    | (go_at_call 19; refine (drop_nil _ _).mono ?_; rintro e X ⟨rfl, hX⟩; subst X)
    | (go_at_call 20; refine (copy_nil _ _).mono ?_; rintro e X ⟨rfl, hX⟩; subst X)
    | (go_at_call 21; refine (plen_nil _).mono ?_; rintro e X ⟨rfl, hX⟩; subst X)
    | (go_at_call 22; refine (plost_nil _).mono ?_; rintro e X ⟨rfl, hX⟩; subst X)
    | (go_at_call 23; refine (ptaken_nil _).mono ?_; rintro e X ⟨rfl, hX⟩; subst X)
    | (refine bs_ls (by kernel_rfl) rfl [_] [l] (by simp only [List.map_toArray, List.map_cons, List.map_nil]; rfl) (bsl1 _ _ _ _) rfl (by decide) rfl (each1 S1) ?_; intro V3 ls3 b3 k3; go_frame))
  go_ret
  exact ⟨rfl, ab_trans hb1 b3⟩

theorem own : ownKnob Try.prog.godebug = none := by kernel_rfl
theorem laidOut : laidOutB Try.prog = true := by kernel_rfl

set_option maxRecDepth 100000 in
theorem lifted (os : Os) (started : os.Started) (H : Type) (enc : TypeId × Value → H) :
    ReturnsInHanded {} Try.checked os 7 .any (Rows.postNoneSpec.pre6 enc Try.prog Try.f7 Rows.postNoneRow.domain false) (Rows.postNoneSpec.post enc Try.prog Try.f7 false true false false) := by
  refine returnsInHanded_of_change_sized (C := Try.checked) own started (by kernel_rfl) Try.func7
    (ChangeSpec.witness6 (enc := enc) (C := Try.checked) false ⟨#[], #[.slice none 0 0, .int .i64 0], []⟩ 8 (by kernel_rfl) (by kernel_rfl) (by kernel_rfl) (by kernel_rfl)) ?_
  intro W base args ds gs before hval0 hW hcnd hsz _
  have hval : ∀ (j : Nat) t v, Try.f7.params[j]? = some t → args[j]? = some v → Value.okWide Try.prog W .any base t v := hval0
  have hW' := hW
  obtain ⟨p, q, hA0, hV, rfl, hfz, hnd⟩ := hW
  have hA : DataW.TrodAll enc Try.prog W 0 (fun _ => true) true Try.f7.params.toList args.toList ds p := hA0
  rw [Try.params7] at hA hval
  obtain ⟨v0, vs0, d0, ds0, p0, q0, hargs, rfl, rfl, h0, r0⟩ := trodAll_cons hA
  obtain ⟨v1, vs1, d1, ds1, p1, q1, rfl, rfl, rfl, h1, r1⟩ := trodAll_cons r0
  obtain ⟨rfl, rfl, rfl⟩ := trodAll_nil r1
  obtain rfl : args = #[v0, v1] := by cases args; simp_all
  obtain ⟨rfl, rfl⟩ := trodVars_none hV
  have k0 := h0
  have lt0 : ∀ x ∈ p0, x.block < W.heap.size := by obtain ⟨m, hm⟩ := k0; exact DataW.trod_lt m _ _ _ hm
  have k1 := h1
  have lt1 : ∀ x ∈ p1, x.block < W.heap.size := by obtain ⟨m, hm⟩ := k1; exact DataW.trod_lt m _ _ _ hm
  obtain ⟨sq0_, sn0_, sk0_, sl0_, rfl, Z0_⟩ := open_bytesZ (hval 0 34 v0 rfl rfl) h0 (fun n hn => by simpa using List.all_eq_true.1 hsz n (DataW.weights_mem_each (j := 0) (t := 34) (by kernel_rfl) rfl n hn))
  obtain ⟨a1, rfl, rfl, rfl, w1⟩ := open_int Try.underlying3 (hval 1 3 v1 rfl rfl) h1
  clear hA0 hval0
  refine (walk sq0_ sn0_ sk0_ sl0_ Z0_ a1 (bounds_i64 w1)).mono fun e W' ⟨he, bel⟩ => ?_
  subst he
  exact ⟨_, rfl, _, _, _, [], _, [], hW', trodAll_mk1 (shut_bool Try.underlying4 _), (trodAll_cons_mk (Below.trod laidOut (by kernel_rfl) (of_decide_eq_true (by kernel_rfl)) k0 bel lt0) (trodAll_cons_mk (Below.trod laidOut (by kernel_rfl) (of_decide_eq_true (by kernel_rfl)) k1 bel lt1) trodAll_mk0)), rfl, bel.frame _, fun h => by cases h⟩

theorem over : Rows.postNoneRow.holds Try.pinned (OpenSpec.ofChange Rows.postNoneSpec) :=
  OpenClaim.holds_of_wide 7 Try.f7 rfl rfl rfl rfl rfl rfl rfl ⟨rfl, rfl, rfl, rfl, rfl⟩ rfl rfl rfl rfl rfl (by kernel_rfl) Try.func7 (by kernel_rfl)
    (of_decide_eq_true (by kernel_rfl)) (by unfold Func.isWrapper; first | (rw [if_pos (by decide +kernel)]; kernel_rfl) | (rw [if_neg (by decide +kernel)]; exact ⟨rfl, rfl⟩))
    (fun os started H enc _ => lifted os started H enc)

theorem proved : Rows.PostNoneSaid := over
end Go.Proofs.Yteililgfjnoabaa.postNone
namespace Go.Proofs.Yteililgfjnoabaa
theorem postNone_holds : Rows.PostNoneSaid := postNone.proved
#print axioms postNone_holds
end Go.Proofs.Yteililgfjnoabaa
