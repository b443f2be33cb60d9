/-
  A nil diary, and a nil tape, answer what the chapter says: estuarylaw07.DiaryNone returns true for every input; no condition.
-/
import Derived.Test.YtalbiggmmmkclaaDyL
import Derived.ProofKit
import Derived.OpenShut
import Derived.ChangeOld
import Derived.Below
import Derived.Lib.SmallJoins
namespace Go.Proofs.Ytalbiggmmmkclaa.diaryNone
open Go.ChangeShapes Go.WideShapes Go.ChangeAt Go.RowKit Go.Joins
set_option linter.unusedVariables false

set_option maxRecDepth 100000 in
set_option maxHeartbeats 1000000 in
theorem walk {W : World} (q : Option Addr) (n c : Nat) (l : List Nat) (hZ : SlZ W (.slice q n c) l) :
    Calls Try.prog 7 #[.slice q n c] W fun e w' => e = .returned (.bool true) ∧ Below W.heap.size W w' := by
  obtain ⟨S0, B0, hl14⟩ := hZ
  have hln := S0.len
  have e55 : ∀ w, (binOp .eql 33 (Err 5) (Err 5)).run Try.prog w = .ok (.bool true) w := fun w => by kernel_rfl
  have e77 := eq7n
  go_enter Try.func7, Try.ntmps7
  go_upto_region 3 with (go_at_call 9; refine (alive7_any _).mono ?_; rintro e V1 ⟨rfl, hb1⟩)
  have S1 := S0.keep hb1
  by_cases hbig : 16376 < n
  · have HW : Hid (wtN [l] = 7) := if_neg (by simp; omega)
    have hbi : (16376 : Int) < (n : Int) := by omega
    go_wp2_with (go_at_call 12; refine (dopen_nil _).mono ?_; rintro e X ⟨rfl, hX⟩; subst X)
    refine (dadd_no _ _ _ _ S1 (by omega) hl14).mono ?_
    rintro e V2 ⟨rfl, hb2⟩
    have S2 := S1.keep hb2
    go_wp2_with (refine bs_ls rfl rfl [_] [l] (by simp only [List.map_toArray, List.map_cons, List.map_nil]; rfl) (bsl1 _ _ _ _) rfl (by decide) rfl (each1 S2) ?_; intro V3 ls3 b3 k3)
    refine (drewrite_nil _ _ _ _ _ _ ls3 (by intro l' hl'; simp at hl'; subst hl'; exact B0) (by intro l' hl'; simp at hl'; subst hl'; exact hl14)).mono ?_
    rw [HW.out]
    rintro e V4 ⟨rfl, b4⟩
    go_wp2_with (first
      | (go_at_call 29; refine (dlen_nil _).mono ?_; rintro e X ⟨rfl, hX⟩; subst X)
      | (go_at_call 30; refine (dbytes_nil _).mono ?_; rintro e X ⟨rfl, hX⟩; subst X))
    go_ret
    exact ⟨rfl, ab_trans (ab_trans (ab_trans hb1 hb2) b3) b4⟩
  · have HW : Hid (wtN [l] = 5) := if_pos (by simp; omega)
    have hbi : ¬ (16376 : Int) < (n : Int) := by omega
    go_wp2_with (go_at_call 12; refine (dopen_nil _).mono ?_; rintro e X ⟨rfl, hX⟩; subst X)
    refine (dadd_nil _ _ _ S1 B0 (by omega)).mono ?_
    rintro e V2 ⟨rfl, hb2⟩
    have S2 := S1.keep hb2
    go_wp2_with (refine bs_ls rfl rfl [_] [l] (by simp only [List.map_toArray, List.map_cons, List.map_nil]; rfl) (bsl1 _ _ _ _) rfl (by decide) rfl (each1 S2) ?_; intro V3 ls3 b3 k3)
    refine (drewrite_nil _ _ _ _ _ _ ls3 (by intro l' hl'; simp at hl'; subst hl'; exact B0) (by intro l' hl'; simp at hl'; subst hl'; exact hl14)).mono ?_
    rw [HW.out]
    rintro e V4 ⟨rfl, b4⟩
    go_wp2_with (first
      | (go_at_call 29; refine (dlen_nil _).mono ?_; rintro e X ⟨rfl, hX⟩; subst X)
      | (go_at_call 30; refine (dbytes_nil _).mono ?_; rintro e X ⟨rfl, hX⟩; subst X))
    go_ret
    exact ⟨rfl, ab_trans (ab_trans (ab_trans hb1 hb2) b3) b4⟩

theorem own : ownKnob Try.prog.godebug = none := by kernel_rfl
theorem laidOut : laidOutB Try.prog = true := by kernel_rfl

set_option maxRecDepth 100000 in
theorem lifted (os : Os) (started : os.Started) (H : Type) (enc : TypeId × Value → H) :
    ReturnsInHanded {} Try.checked os 7 .any (Rows.diaryNoneSpec.pre6 enc Try.prog Try.f7 Rows.diaryNoneRow.domain false) (Rows.diaryNoneSpec.post enc Try.prog Try.f7 false true false false) := by
  refine returnsInHanded_of_change_sized (C := Try.checked) own started (by kernel_rfl) Try.func7
    (ChangeSpec.witness6 (enc := enc) (C := Try.checked) false ⟨#[], #[.slice none 0 0], []⟩ 8 (by kernel_rfl) (by kernel_rfl) (by kernel_rfl) (by kernel_rfl)) ?_
  intro W base args ds gs before hval0 hW hcnd hsz _
  have hval : ∀ (j : Nat) t v, Try.f7.params[j]? = some t → args[j]? = some v → Value.okWide Try.prog W .any base t v := hval0
  have hW' := hW
  obtain ⟨p, q, hA0, hV, rfl, hfz, hnd⟩ := hW
  have hA : DataW.TrodAll enc Try.prog W 0 (fun _ => true) true Try.f7.params.toList args.toList ds p := hA0
  rw [Try.params7] at hA hval
  obtain ⟨v0, vs0, d0, ds0, p0, q0, hargs, rfl, rfl, h0, r0⟩ := trodAll_cons hA
  obtain ⟨rfl, rfl, rfl⟩ := trodAll_nil r0
  obtain rfl : args = #[v0] := by cases args; simp_all
  obtain ⟨rfl, rfl⟩ := trodVars_none hV
  have k0 := h0
  have lt0 : ∀ x ∈ p0, x.block < W.heap.size := by obtain ⟨m, hm⟩ := k0; exact DataW.trod_lt m _ _ _ hm
  obtain ⟨sq0_, sn0_, sk0_, sl0_, rfl, Z0_⟩ := open_bytesZ (hval 0 39 v0 rfl rfl) h0 (fun n hn => by simpa using List.all_eq_true.1 hsz n (DataW.weights_mem_each (j := 0) (t := 39) (by kernel_rfl) rfl n hn))
  clear hA0 hval0
  refine (walk sq0_ sn0_ sk0_ sl0_ Z0_).mono fun e W' ⟨he, bel⟩ => ?_
  subst he
  exact ⟨_, rfl, _, _, _, [], _, [], hW', trodAll_mk1 (shut_bool Try.underlying4 _), (trodAll_cons_mk (Below.trod laidOut (by kernel_rfl) (of_decide_eq_true (by kernel_rfl)) k0 bel lt0) trodAll_mk0), rfl, bel.frame _, fun h => by cases h⟩

theorem over : Rows.diaryNoneRow.holds Try.pinned (OpenSpec.ofChange Rows.diaryNoneSpec) :=
  OpenClaim.holds_of_wide 7 Try.f7 rfl rfl rfl rfl rfl rfl rfl ⟨rfl, rfl, rfl, rfl, rfl⟩ rfl rfl rfl rfl rfl (by kernel_rfl) Try.func7 (by kernel_rfl)
    (of_decide_eq_true (by kernel_rfl)) (by unfold Func.isWrapper; first | (rw [if_pos (by decide +kernel)]; kernel_rfl) | (rw [if_neg (by decide +kernel)]; exact ⟨rfl, rfl⟩))
    (fun os started H enc _ => lifted os started H enc)

theorem proved : Rows.DiaryNoneSaid := over
end Go.Proofs.Ytalbiggmmmkclaa.diaryNone
namespace Go.Proofs.Ytalbiggmmmkclaa
theorem diaryNone_holds : Rows.DiaryNoneSaid := diaryNone.proved
#print axioms diaryNone_holds
end Go.Proofs.Ytalbiggmmmkclaa
