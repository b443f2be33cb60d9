/-
  A nil basin: estuarylaw16.BasinNone returns true for every input; no condition.
-/
import Derived.Test.YtikopgdalnolaaaPk44
import Derived.Test.YtikopgdalnolaaaPk08
import Derived.ProofKit
import Derived.OpenShut
import Derived.ChangeOld
import Derived.Below
import Derived.Lib.SmallJoins
namespace Go.Proofs.Ytikopgdalnolaaa.basinNone
open Go.ChangeShapes Go.WideShapes Go.ChangeAt Go.RowKit Go.Joins
set_option linter.unusedVariables false
set_option maxRecDepth 100000

theorem eq11 (w : World) : (binOp .eql 32 (Err 1) (Err 1)).run Try.prog w = .ok (.bool true) w := by kernel_rfl
theorem eq22 (w : World) : (binOp .eql 32 (Err 2) (Err 2)).run Try.prog w = .ok (.bool true) w := by kernel_rfl
set_option maxHeartbeats 4000000 in
theorem walk (n : Int) (bn : -9223372036854775808 ≤ n ∧ n ≤ 9223372036854775807) (p0 : Int) (b0 : -9223372036854775808 ≤ p0 ∧ p0 ≤ 9223372036854775807) (p1 : Int) (b1 : -9223372036854775808 ≤ p1 ∧ p1 ≤ 9223372036854775807) (w : World) :
    Calls Try.prog 6 #[.int .i64 n, .agg #[.int .i64 p0, .int .i64 p1]] w fun e w' => e = .returned (.bool true) ∧ Below w.heap.size w w' := by
  obtain ⟨A, hE, hB, hw⟩ := blk1 w #[.int .i64 p0, .int .i64 p1] 38
  have e1 := eq11
  have e2 := eq22
  have HX : Hid (∀ V, Below A.heap.size A V → V.cell? ⟨w.heap.size, 0, none⟩ = some (.int .i64 p0) ∧ V.cell? ⟨w.heap.size, 1, none⟩ = some (.int .i64 p1)) := fun V hb => ⟨(hB.keep hb).at rfl, (hB.keep hb).at rfl⟩
  go_enter Try.func6, Try.ntmps6
  go_upto_region 4 with (go_at_call 8; refine (alive16_any _).mono ?_; rintro e W1 ⟨rfl, a1⟩)
  clear hE hB
  obtain ⟨x0, x1⟩ := HX.out W1 a1
  go_upto_region 6 with (first
    | (go_at_call 18; refine (baraise_nil n (p0, p1) _).mono ?_; rintro e W2 ⟨rfl, a2⟩; have a12 := ab_trans a1 a2)
    | (go_at_call 23; refine (bmark_nil n _).mono ?_; rintro e W2 ⟨rfl, rfl⟩))
  clear x0 x1
  go_upto_region 7 with (first
    | (go_at_call 22; refine (baclosed_nil n _).mono ?_; rintro e W3 ⟨rfl, a3⟩; obtain ⟨Z3, hE3, hZ3, hz3⟩ := blk1 W3 #[.int .i64 0, .int .i64 0] 38)
    | (refine st_blk rfl rfl hZ3 rfl rfl info_plc rfl (by simp [Value.oneCell']) ?_; intro W4 hX4 C4))
  have a4 : Below A.heap.size A W4 := ab_chg (ab_trans (ab_trans a12 a3) hz3) C4 (Nat.le_trans a12.size a3.size)
  obtain ⟨x0, x1⟩ := HX.out W4 a4
  clear hE3 hZ3 hz3 a3 C4 hX4 a12 a1 a2
  have HCe := bacell_nil (n, p0, p1)
  unfold kyV at HCe
  dsimp only at HCe
  go_upto_region 8 with (first
    | (go_at_call 14; refine (HCe _).mono ?_; rintro e W5 ⟨rfl, a5⟩)
    | (refine al_cell rfl rfl ?_; intro W6 e6 hX6 a6; clear e6)
    | (refine st_cell rfl rfl hX6 rfl rfl ?_; intro W7 hX7 C7))
  have a7 : Below A.heap.size A W7 := ab_chg (ab_trans (ab_trans a4 a5) a6) C7 (Nat.le_trans a4.size a5.size)
  clear x0 x1 a5 a6 C7 hX6 hX7 a4 HCe
  have HLi := balist_nil n (p0, p1) 9
  go_wp2_with (first
    | (go_at_call 11; refine (bafeed_nil _ _ _ _ _ _ _ _ _ _).mono ?_; rintro e W7 ⟨rfl, rfl⟩)
    | (go_at_call 12; refine (bnext_nil _ _).mono ?_; rintro e W7 ⟨rfl, rfl⟩)
    | (go_at_call 21; refine (babase_nil _ _).mono ?_; rintro e W8 ⟨rfl, a8⟩; have a78 := ab_trans a7 a8; obtain ⟨x0, x1⟩ := HX.out W8 a78)
    | (go_at_call 24; refine (HLi _).mono ?_; rintro e W9 ⟨rfl, a9⟩)
    | (go_at_call 16; refine (blen_nil _).mono ?_; rintro e W9 ⟨rfl, rfl⟩)
    | (go_at_call 25; refine (blanes_nil _).mono ?_; rintro e W9 ⟨rfl, rfl⟩))
  go_ret
  exact ⟨by first | rfl | simp, ab_trans hw (ab_trans a78 a9)⟩
theorem own : ownKnob Try.prog.godebug = none := by kernel_rfl
theorem laidOut : laidOutB Try.prog = true := by kernel_rfl

set_option maxRecDepth 100000 in
theorem lifted (os : Os) (started : os.Started) (H : Type) (enc : TypeId × Value → H) :
    ReturnsInHanded {} Try.checked os 6 .any (Rows.basinNoneSpec.pre6 enc Try.prog Try.f6 Rows.basinNoneRow.domain false) (Rows.basinNoneSpec.post enc Try.prog Try.f6 false true false false) := by
  refine returnsInHanded_of_change (C := Try.checked) own started (by kernel_rfl) Try.func6
    (ChangeSpec.witness6 (enc := enc) (C := Try.checked) false ⟨#[], #[.int .i64 0, .agg #[.int .i64 0, .int .i64 0]], []⟩ 8 (by kernel_rfl) (by kernel_rfl) (by kernel_rfl) (by kernel_rfl)) ?_
  intro W base args ds gs before hval0 hW hcnd _
  have hval : ∀ (j : Nat) t v, Try.f6.params[j]? = some t → args[j]? = some v → Value.okWide Try.prog W .any base t v := hval0
  have hW' := hW
  obtain ⟨p, q, hA0, hV, rfl, hfz, hnd⟩ := hW
  have hA : DataW.TrodAll enc Try.prog W 0 (fun _ => true) true Try.f6.params.toList args.toList ds p := hA0
  rw [Try.params6] at hA hval
  obtain ⟨v0, vs0, d0, ds0, p0, q0, hargs, rfl, rfl, h0, r0⟩ := trodAll_cons hA
  obtain ⟨v1, vs1, d1, ds1, p1, q1, rfl, rfl, rfl, h1, r1⟩ := trodAll_cons r0
  obtain ⟨rfl, rfl, rfl⟩ := trodAll_nil r1
  obtain rfl : args = #[v0, v1] := by cases args; simp_all
  obtain ⟨rfl, rfl⟩ := trodVars_none hV
  have k0 := h0
  have lt0 : ∀ x ∈ p0, x.block < W.heap.size := by obtain ⟨m, hm⟩ := k0; exact DataW.trod_lt m _ _ _ hm
  have k1 := h1
  have lt1 : ∀ x ∈ p1, x.block < W.heap.size := by obtain ⟨m, hm⟩ := k1; exact DataW.trod_lt m _ _ _ hm
  obtain ⟨a0, rfl, rfl, rfl, w0⟩ := open_int Try.underlying3 (hval 0 3 v0 rfl rfl) h0
  obtain ⟨c1_0, c1_1, y1_0, y1_1, m1, rfl, rfl, rfl, hy1_0, hy1_1⟩ := open_agg2 Try.underlying38 (by kernel_rfl) (by kernel_rfl) (hval 1 38 v1 rfl rfl) h1
  obtain ⟨a1_0, e1_0, rfl, w1_0⟩ := DataW.trod_int Try.underlying3 hy1_0
  simp at e1_0; subst e1_0
  obtain ⟨a1_1, e1_1, rfl, w1_1⟩ := DataW.trod_int Try.underlying3 hy1_1
  simp at e1_1; subst e1_1
  clear hA0 hval0
  refine (walk a0 (bounds_i64 w0) a1_0 (bounds_i64 w1_0) a1_1 (bounds_i64 w1_1) W).mono fun e W' ⟨he, bel⟩ => ?_
  subst he
  exact ⟨_, rfl, _, _, _, [], _, [], hW', trodAll_mk1 (shut_bool Try.underlying4 _), (trodAll_cons_mk (Below.trod laidOut (by kernel_rfl) (of_decide_eq_true (by kernel_rfl)) k0 bel lt0) (trodAll_cons_mk (Below.trod laidOut (by kernel_rfl) (of_decide_eq_true (by kernel_rfl)) k1 bel lt1) trodAll_mk0)), rfl, bel.frame _, fun h => by cases h⟩

theorem over : Rows.basinNoneRow.holds Try.pinned (OpenSpec.ofChange Rows.basinNoneSpec) :=
  OpenClaim.holds_of_wide 6 Try.f6 rfl rfl rfl rfl rfl rfl rfl ⟨rfl, rfl, rfl, rfl, rfl⟩ rfl rfl rfl rfl rfl (by kernel_rfl) Try.func6 (by kernel_rfl)
    (of_decide_eq_true (by kernel_rfl)) (by unfold Func.isWrapper; first | (rw [if_pos (by decide +kernel)]; kernel_rfl) | (rw [if_neg (by decide +kernel)]; exact ⟨rfl, rfl⟩))
    (fun os started H enc _ => lifted os started H enc)

theorem proved : Rows.BasinNoneSaid := over
end Go.Proofs.Ytikopgdalnolaaa.basinNone
namespace Go.Proofs.Ytikopgdalnolaaa
theorem basinNone_holds : Rows.BasinNoneSaid := basinNone.proved
#print axioms basinNone_holds
end Go.Proofs.Ytikopgdalnolaaa
