/-
  floor.Text and floor.Parse answer as the document says at every wide number and every text: estuarylaw01.FloorTexts returns true for every input; no condition.
-/
import Derived.Test.YtahpnkdofnnolabWalk13
import Derived.Test.YtahpnkdofnnolabRegion
import Derived.ProofKit
import Derived.OpenShut
import Derived.ChangeOld
import Derived.Below
import Derived.ShutString
import Derived.Lib.SmallJoins
namespace Go.Proofs.Ytahpnkdofnnolab.floorTexts
open Go.ChangeShapes Go.WideShapes Go.ChangeAt Go.RowKit Go.Joins
open Go.ChangeMaps (open_string shut_string)
set_option linter.unusedVariables false
attribute [local go_sem] ok_fold

/-- Both Parses at every text of at most 200 bytes: the same number's halves and the same answer. -/
theorem parse_both (s : ByteArray) (hs : s.size ≤ maxLen) : ∃ (h l : Int) (b : Bool),
    (∀ w, Calls Try.prog 8 #[.string s] w fun e w' => e = .returned (.tuple #[.agg #[.int .i64 h, .int .u64 l], .bool b]) ∧ Below w.heap.size w w') ∧
    (∀ w, Calls Try.prog 10 #[.string s] w fun e w' => e = .returned (.tuple #[.agg #[.int .i64 h, .int .u64 l], .bool b]) ∧ Below w.heap.size w w') ∧ (40 < s.size → b = false) := by
  by_cases c : s.size ≤ 40
  · by_cases z : s.size = 0
    · have e := pB_empty s (tailOf s) z
      refine ⟨0, 0, false, fun w => ?_, fun w => rparse_out s w hs (.inl z), fun _ => rfl⟩
      have := parse_short s w c
      unfold pH pL at this; rw [e] at this; exact this
    · exact ⟨_, _, _, fun w => parse_short s w c, fun w => rparse_in s w (by omega) c, fun h => absurd h (by omega)⟩
  · exact ⟨0, 0, false, fun w => parse_long s w hs (by omega), fun w => rparse_out s w hs (.inr (by omega)), fun _ => rfl⟩

set_option maxHeartbeats 1000000 in
theorem walk (ah : Int) (bah : -9223372036854775808 ≤ ah ∧ ah ≤ 9223372036854775807) (al : Int) (bal : 0 ≤ al ∧ al ≤ 18446744073709551615) (s : ByteArray) (hs : s.size ≤ maxLen) (w : World) :
    Calls Try.prog 3 #[.agg #[.int .i64 ah, .int .u64 al], .string s] w fun e w' => e = .returned (.bool true) ∧ Below w.heap.size w w' := by
  obtain ⟨h, l, b, p1, p2, p3⟩ := parse_both s hs
  have HP1 : Hid (∀ w, Calls Try.prog 8 #[.string s] w fun e w' => e = .returned (.tuple #[.agg #[.int .i64 h, .int .u64 l], .bool b]) ∧ Below w.heap.size w w') := p1
  have HP2 : Hid (∀ w, Calls Try.prog 10 #[.string s] w fun e w' => e = .returned (.tuple #[.agg #[.int .i64 h, .int .u64 l], .bool b]) ∧ Below w.heap.size w w') := p2
  clear p1 p2
  unfold maxLen at hs
  by_cases c : 200 < s.size
  · have c' : (200 : Int) < (s.size : Int) := by omega
    obtain rfl := p3 (by omega)
    go_enter Try.func3, Try.ntmps3
    go_wp2_with fail
    refine (alive_any _).mono ?_
    rintro e w1 ⟨rfl, hb1⟩
    go_wp2_with fail
    refine (HP1.out _).mono ?_
    rintro e w2 ⟨rfl, hb2⟩
    go_wp2_with fail
    go_ret
    exact ⟨rfl, ab_alloc (ab_trans (ab_trans (ab_alloc (Below.refl _ _) _) hb1) hb2) _⟩
  · have c' : ¬ (200 : Int) < (s.size : Int) := by omega
    clear p3
    go_enter Try.func3, Try.ntmps3
    go_wp2_with fail
    refine (alive_any _).mono ?_
    rintro e w1 ⟨rfl, hb1⟩
    obtain ⟨c0, c1, hz⟩ := blocks1 hb1
    go_wp2_with fail
    refine (text_any _ _ _ bah.1 bah.2 bal.1 bal.2).mono ?_
    rintro e w2 ⟨rfl, hb2⟩
    go_wp2_with fail
    refine (HP1.out _).mono ?_
    rintro e w3 ⟨rfl, hb3⟩
    go_wp2_with fail
    refine (HP2.out _).mono ?_
    rintro e w4 ⟨rfl, hb4⟩
    have hb14 : Below w1.heap.size w1 w4 := ab_trans (ab_trans hb2 hb3) (ab_trans (ab_alloc (Below.refl _ _) _) hb4)
    have d0 := keep_cell hb14 c0 hz
    have d1 := keep_cell hb14 c1 hz
    obtain ⟨e0, e1, hz4⟩ := blocks1 hb4
    have hz14 : w.heap.size < w4.heap.size := Nat.lt_of_lt_of_le hz hb14.size
    have hbw : Below w.heap.size w w4 := ab_trans (ab_trans (ab_alloc (Below.refl _ _) _) hb1) hb14
    clear hb1 hb2 hb3 hb4 hb14 c0 c1 HP1 HP2
    go_wp2_with fail
    refine (rtext_any _ _ _ bah.1 bah.2 bal.1 bal.2).mono ?_
    rintro e w5 ⟨rfl, hb5⟩
    have f0 := keep_cell hb5 (o := 0) (b := w3.heap.size) (v := .int .i64 h) (by simp [go_sem, hz4, e0]) (by simp; omega)
    have f1 := keep_cell hb5 (o := 1) (b := w3.heap.size) (v := .int .u64 l) (by simp [go_sem, hz4, e1]) (by simp; omega)
    obtain ⟨f2, f3, hz5⟩ := blocks1 hb5
    go_wp2_with fail
    go_ret
    exact ⟨ret_bool (by simp), ab_trans (ab_alloc hbw _) hb5⟩

theorem own : ownKnob Try.prog.godebug = none := by kernel_rfl
theorem laidOut : laidOutB Try.prog = true := by kernel_rfl

set_option maxRecDepth 100000 in
theorem lifted (os : Os) (started : os.Started) (H : Type) (enc : TypeId × Value → H) :
    ReturnsInHanded {} Try.checked os 3 .any (Rows.floorTextsSpec.pre6 enc Try.prog Try.f3 Rows.floorTextsRow.domain false) (Rows.floorTextsSpec.post enc Try.prog Try.f3 false true false false) := by
  refine returnsInHanded_of_change (C := Try.checked) own started (by kernel_rfl) Try.func3
    (ChangeSpec.witness6 (enc := enc) (C := Try.checked) false ⟨#[], #[.agg #[.int .i64 0, .int .u64 0], .string ByteArray.empty], []⟩ 8 (by kernel_rfl) (by kernel_rfl) (by kernel_rfl) (by kernel_rfl)) ?_
  intro W base args ds gs before hval0 hW hcnd _
  have hval : ∀ (j : Nat) t v, Try.f3.params[j]? = some t → args[j]? = some v → Value.okWide Try.prog W .any base t v := hval0
  have hW' := hW
  obtain ⟨p, q, hA0, hV, rfl, hfz, hnd⟩ := hW
  have hA : DataW.TrodAll enc Try.prog W 0 (fun _ => true) true Try.f3.params.toList args.toList ds p := hA0
  rw [Try.params3] at hA hval
  obtain ⟨v0, vs0, d0, ds0, p0, q0, hargs, rfl, rfl, h0, r0⟩ := trodAll_cons hA
  obtain ⟨v1, vs1, d1, ds1, p1, q1, rfl, rfl, rfl, h1, r1⟩ := trodAll_cons r0
  obtain ⟨rfl, rfl, rfl⟩ := trodAll_nil r1
  obtain rfl : args = #[v0, v1] := by cases args; simp_all
  obtain ⟨rfl, rfl⟩ := trodVars_none hV
  have k0 := h0
  have lt0 : ∀ x ∈ p0, x.block < W.heap.size := by obtain ⟨m, hm⟩ := k0; exact DataW.trod_lt m _ _ _ hm
  have k1 := h1
  have lt1 : ∀ x ∈ p1, x.block < W.heap.size := by obtain ⟨m, hm⟩ := k1; exact DataW.trod_lt m _ _ _ hm
  obtain ⟨c0_0, c0_1, y0_0, y0_1, m0, rfl, rfl, rfl, hy0_0, hy0_1⟩ := open_agg2 Try.underlying24 (by kernel_rfl) (by kernel_rfl) (hval 0 24 v0 rfl rfl) h0
  obtain ⟨a0_0, e0_0, rfl, w0_0⟩ := DataW.trod_int Try.underlying3 hy0_0
  simp at e0_0; subst e0_0
  obtain ⟨a0_1, e0_1, rfl, w0_1⟩ := DataW.trod_int Try.underlying22 hy0_1
  simp at e0_1; subst e0_1
  obtain ⟨a1, rfl, rfl, rfl, w1⟩ := open_string Try.underlying9 (hval 1 9 v1 rfl rfl) h1
  clear hA0 hval0
  refine (walk a0_0 (bounds_i64 w0_0) a0_1 (bounds_u64 w0_1) a1 w1 W).mono fun e W' ⟨he, bel⟩ => ?_
  subst he
  exact ⟨_, rfl, _, _, _, [], _, [], hW', trodAll_mk1 (shut_bool Try.underlying4 _), (trodAll_cons_mk (Below.trod laidOut (by kernel_rfl) (of_decide_eq_true (by kernel_rfl)) k0 bel lt0) (trodAll_cons_mk (Below.trod laidOut (by kernel_rfl) (of_decide_eq_true (by kernel_rfl)) k1 bel lt1) trodAll_mk0)), rfl, bel.frame _, fun h => by cases h⟩

theorem over : Rows.floorTextsRow.holds Try.pinned (OpenSpec.ofChange Rows.floorTextsSpec) :=
  OpenClaim.holds_of_wide 3 Try.f3 rfl rfl rfl rfl rfl rfl rfl ⟨rfl, rfl, rfl, rfl, rfl⟩ rfl rfl rfl rfl rfl (by kernel_rfl) Try.func3 (by kernel_rfl)
    (of_decide_eq_true (by kernel_rfl)) (by unfold Func.isWrapper; first | (rw [if_pos (by decide +kernel)]; kernel_rfl) | (rw [if_neg (by decide +kernel)]; exact ⟨rfl, rfl⟩))
    (fun os started H enc _ => lifted os started H enc)

theorem proved : Rows.FloorTextsSaid := over
end Go.Proofs.Ytahpnkdofnnolab.floorTexts
namespace Go.Proofs.Ytahpnkdofnnolab
theorem floorTexts_holds : Rows.FloorTextsSaid := floorTexts.proved
#print axioms floorTexts_holds
end Go.Proofs.Ytahpnkdofnnolab
