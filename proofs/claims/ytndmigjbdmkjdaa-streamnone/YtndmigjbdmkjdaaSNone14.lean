/-
  A nil stream: estuarylaw14.StreamNone returns true for every input; no condition.
-/
import Derived.Test.YtndmigjbdmkjdaaPk32
import Derived.Test.YtndmigjbdmkjdaaPk08
import Derived.ProofKit
import Derived.OpenShut
import Derived.ChangeOld
import Derived.Below
import Derived.Lib.SmallJoins
namespace Go.Proofs.Ytndmigjbdmkjdaa.streamNone
open Go.ChangeShapes Go.WideShapes Go.ChangeAt Go.RowKit Go.Joins
set_option linter.unusedVariables false

theorem eq22 (w : World) : (binOp .eql 29 (Err 2) (Err 2)).run Try.prog w = .ok (.bool true) w := by kernel_rfl
theorem cut_nil (q : Option Addr) (n cap : Nat) (w : World) : Calls Try.prog 17 #[.pointer none, .slice q n cap] w fun e w' => e = .returned (.tuple #[.int .i64 0, Err 2]) ∧ Below w.heap.size w w' := by
  go_enter Try.func17, Try.ntmps17
  go_wp2_with fail
  go_ret2
  exact ⟨rfl, by repeat (first | exact Below.refl _ _ | refine ab_alloc ?_ _)⟩
set_option maxHeartbeats 4000000 in
set_option maxRecDepth 100000 in
theorem none_walk (k t y v : Int) (o : Op5) (qp : Option Addr) (np cp : Nat) (w : World) :
    Calls Try.prog 7 #[.agg #[.int .i64 k, .int .i64 t, .int .i64 y, .int .i64 v, .int .i64 o.s, .int .i64 o.k, .int .i64 o.t, .int .i64 o.y, .int .i64 o.v, .slice qp np cp]] w fun e w' => e = .returned (.bool true) ∧ Below w.heap.size w w' := by
  obtain ⟨A, hE, hB, hw⟩ := blk1 w #[.int .i64 k, .int .i64 t, .int .i64 y, .int .i64 v, .int .i64 o.s, .int .i64 o.k, .int .i64 o.t, .int .i64 o.y, .int .i64 o.v, .slice qp np cp] 40
  go_enter Try.func7, Try.ntmps7
  go_upto_region 4 with (go_at_call 9; refine (alive14_any _).mono ?_; rintro e W1 ⟨rfl, b1⟩)
  have hB1 := hB.keep b1
  have hw1 := ab_trans hw b1
  have x1 : W1.cell? ⟨w.heap.size, 1, none⟩ = some (.int .i64 t) := hB1.at rfl
  have x2 : W1.cell? ⟨w.heap.size, 2, none⟩ = some (.int .i64 y) := hB1.at rfl
  have x3 : W1.cell? ⟨w.heap.size, 3, none⟩ = some (.int .i64 v) := hB1.at rfl
  have hc := ssample_nil t y v W1
  unfold opV opA zOp at hc
  dsimp only at hc
  clear hE hB hw b1
  go_upto_region 5 with (first
    | (go_at_call 20; refine hc.mono ?_; rintro e W2 ⟨rfl, b2⟩; obtain ⟨Z2, hE2, hZ2, hz2⟩ := blk1 W2 (opA zOp) 37; unfold opA zOp at hE2; dsimp only at hE2)
    | (refine st_op rfl rfl (k1 := zOp) hZ2 rfl rfl ?_; intro W3 hX3 C3))
  have hw3 : Below W1.heap.size W1 W3 := ab_chg (ab_trans b2 hz2) C3 (Nat.le_trans b2.size (Nat.le_refl _))
  have hB3 := hB1.keep hw3
  have hW3 := ab_trans hw1 hw3
  have y1 : W3.cell? ⟨w.heap.size, 1, none⟩ = some (.int .i64 t) := hB3.at rfl
  have hc := smark_nil t W3
  unfold opV opA zOp at hc
  dsimp only at hc
  clear x1 x2 x3 hE2 hZ2 hz2 b2 C3 hX3 hB1 hw1 hw3
  go_upto_region 6 with (first
    | (go_at_call 21; refine hc.mono ?_; rintro e W4 ⟨rfl, b4⟩; obtain ⟨Z4, hE4, hZ4, hz4⟩ := blk1 W4 (opA zOp) 37; unfold opA zOp at hE4; dsimp only at hE4)
    | (refine st_op rfl rfl (k1 := zOp) hZ4 rfl rfl ?_; intro W5 hX5 C5))
  have hw5 : Below W3.heap.size W3 W5 := ab_chg (ab_trans b4 hz4) C5 (Nat.le_trans b4.size (Nat.le_refl _))
  have hB5 := hB3.keep hw5
  have hW5 := ab_trans hW3 hw5
  have u5 : W5.cell? ⟨w.heap.size, 9, none⟩ = some (.slice qp np cp) := hB5.at rfl
  clear y1 hE4 hZ4 hz4 b4 C5 hX5 hB3 hW3 hw5
  go_upto_region 7 with (go_at_call 17; refine (cut_nil qp np cp _).mono ?_; rintro e W6 ⟨rfl, b6⟩)
  have hB6 := hB5.keep b6
  have hW6 := ab_trans hW5 b6
  have v1 : W6.cell? ⟨w.heap.size, 1, none⟩ = some (.int .i64 t) := hB6.at rfl
  have v2 : W6.cell? ⟨w.heap.size, 2, none⟩ = some (.int .i64 y) := hB6.at rfl
  have s4 : W6.cell? ⟨w.heap.size, 4, none⟩ = some (.int .i64 o.s) := hB6.at rfl
  have s5 : W6.cell? ⟨w.heap.size, 5, none⟩ = some (.int .i64 o.k) := hB6.at rfl
  have s6 : W6.cell? ⟨w.heap.size, 6, none⟩ = some (.int .i64 o.t) := hB6.at rfl
  have s7 : W6.cell? ⟨w.heap.size, 7, none⟩ = some (.int .i64 o.y) := hB6.at rfl
  have s8 : W6.cell? ⟨w.heap.size, 8, none⟩ = some (.int .i64 o.v) := hB6.at rfl
  have hc := sput_nil o W6
  unfold opV opA at hc
  have E2' := eq22
  clear u5 hB5 hW5 b6 hB6
  go_wp2_with (first
    | (go_at_call 27; refine (sreplay_nil t y _).mono ?_; rintro e W6 ⟨rfl, rfl⟩)
    | (go_at_call 22; refine (slast_nil _).mono ?_; rintro e W6 ⟨rfl, rfl⟩)
    | (go_at_call 15; refine hc.mono ?_; rintro e W7 ⟨rfl, b7⟩)
    | (go_at_call 16; refine (snext_nil _).mono ?_; rintro e W7 ⟨rfl, rfl⟩)
    | (go_at_call 23; refine (sheld_nil _).mono ?_; rintro e W7 ⟨rfl, rfl⟩)
    | (go_at_call 28; refine (splaces_nil _).mono ?_; rintro e W7 ⟨rfl, rfl⟩)
    | (go_at_call 14; refine (sclone_nil _).mono ?_; rintro e W7 ⟨rfl, rfl⟩))
  go_ret
  exact ⟨rfl, ab_trans hW6 b7⟩
theorem walk {W : World} (k : Int) (hk : -9223372036854775808 ≤ k ∧ k ≤ 9223372036854775807) (t : Int) (ht : -9223372036854775808 ≤ t ∧ t ≤ 9223372036854775807) (y : Int) (hy : -9223372036854775808 ≤ y ∧ y ≤ 9223372036854775807) (v : Int) (hv : -9223372036854775808 ≤ v ∧ v ≤ 9223372036854775807)
    (s0 : Int) (h0 : -9223372036854775808 ≤ s0 ∧ s0 ≤ 9223372036854775807) (s1 : Int) (h1 : -9223372036854775808 ≤ s1 ∧ s1 ≤ 9223372036854775807) (s2 : Int) (h2 : -9223372036854775808 ≤ s2 ∧ s2 ≤ 9223372036854775807) (s3 : Int) (h3 : -9223372036854775808 ≤ s3 ∧ s3 ≤ 9223372036854775807) (s4 : Int) (h4 : -9223372036854775808 ≤ s4 ∧ s4 ≤ 9223372036854775807)
    (q : Option Addr) (g off n cap : Nat) (l : List (Nat → Int)) (hn : l.length = n) (hc : n ≤ cap) (hp : 0 < n → q = some ⟨g, off, none⟩) (hg : ∀ _ : 0 < n, g < W.heap.size)
    (hr : ∀ j c, l[j]? = some c → ∀ i, i < 2 → W.cell? ⟨g, off + j * 2 + i, none⟩ = some (.int .i64 (c i)) ∧ (Lit.int .i64 (c i)).wf = true) :
    Calls Try.prog 7 #[.agg #[.int .i64 k, .int .i64 t, .int .i64 y, .int .i64 v, .int .i64 s0, .int .i64 s1, .int .i64 s2, .int .i64 s3, .int .i64 s4, .slice q n cap]] W fun e w' => e = .returned (.bool true) ∧ Below W.heap.size W w' := none_walk k t y v ⟨s0, s1, s2, s3, s4⟩ q n cap W

theorem own : ownKnob Try.prog.godebug = none := by kernel_rfl
theorem laidOut : laidOutB Try.prog = true := by kernel_rfl

set_option maxRecDepth 100000 in
theorem lifted (os : Os) (started : os.Started) (H : Type) (enc : TypeId × Value → H) :
    ReturnsInHanded {} Try.checked os 7 .any (Rows.streamNoneSpec.pre6 enc Try.prog Try.f7 Rows.streamNoneRow.domain false) (Rows.streamNoneSpec.post enc Try.prog Try.f7 false true false false) := by
  refine returnsInHanded_of_change (C := Try.checked) own started (by kernel_rfl) Try.func7
    (ChangeSpec.witness6 (enc := enc) (C := Try.checked) false ⟨#[], #[.agg #[.int .i64 0, .int .i64 0, .int .i64 0, .int .i64 0, .int .i64 0, .int .i64 0, .int .i64 0, .int .i64 0, .int .i64 0, .slice none 0 0]], []⟩ 8 (by kernel_rfl) (by kernel_rfl) (by kernel_rfl) (by kernel_rfl)) ?_
  intro W base args ds gs before hval0 hW hcnd _
  have hval : ∀ (j : Nat) t v, Try.f7.params[j]? = some t → args[j]? = some v → Value.okWide Try.prog W .any base t v := hval0
  have hW' := hW
  obtain ⟨p, q, hA0, hV, rfl, hfz, hnd⟩ := hW
  have hA : DataW.TrodAll enc Try.prog W 0 (fun _ => true) true Try.f7.params.toList args.toList ds p := hA0
  rw [Try.params7] at hA hval
  obtain ⟨v0, vs0, d0, ds0, p0, q0, hargs, rfl, rfl, h0, r0⟩ := trodAll_cons hA
  obtain ⟨rfl, rfl, rfl⟩ := trodAll_nil r0
  obtain rfl : args = #[v0] := by cases args; simp_all
  obtain ⟨rfl, rfl⟩ := trodVars_none hV
  have k0 := h0
  have lt0 : ∀ x ∈ p0, x.block < W.heap.size := by obtain ⟨m, hm⟩ := k0; exact DataW.trod_lt m _ _ _ hm
  obtain ⟨cs0, rfl, hz0, fm0, hx0⟩ := open_struct (n := 10) Try.underlying40 (by kernel_rfl) (hval 0 40 v0 rfl rfl) h0
  obtain ⟨e0_0, e0_1, e0_2, e0_3, e0_4, e0_5, e0_6, e0_7, e0_8, e0_9, rfl⟩ : ∃ e0_0 e0_1 e0_2 e0_3 e0_4 e0_5 e0_6 e0_7 e0_8 e0_9, cs0 = #[e0_0, e0_1, e0_2, e0_3, e0_4, e0_5, e0_6, e0_7, e0_8, e0_9] := by
    refine ⟨cs0[0], cs0[1], cs0[2], cs0[3], cs0[4], cs0[5], cs0[6], cs0[7], cs0[8], cs0[9], ?_⟩
    apply Array.ext
    · simpa using hz0
    · intro i h1 h2
      have : i = 0 ∨ i = 1 ∨ i = 2 ∨ i = 3 ∨ i = 4 ∨ i = 5 ∨ i = 6 ∨ i = 7 ∨ i = 8 ∨ i = 9 := by omega
      rcases this with rfl | rfl | rfl | rfl | rfl | rfl | rfl | rfl | rfl | rfl <;> rfl
  obtain ⟨fy0_0, fg0_0⟩ := hx0 0 _ rfl
  obtain ⟨a0_0, ea0_0, w0_0⟩ := flat_cell 8 _ 3 _ _ 0 .i64 fg0_0 (by kernel_rfl)
  obtain rfl : e0_0 = .int .i64 a0_0 := by have h9 : ([e0_0] : List Value)[0]? = some (Value.int .i64 a0_0) := ea0_0; simpa using h9
  obtain ⟨fy0_1, fg0_1⟩ := hx0 1 _ rfl
  obtain ⟨a0_1, ea0_1, w0_1⟩ := flat_cell 8 _ 3 _ _ 0 .i64 fg0_1 (by kernel_rfl)
  obtain rfl : e0_1 = .int .i64 a0_1 := by have h9 : ([e0_1] : List Value)[0]? = some (Value.int .i64 a0_1) := ea0_1; simpa using h9
  obtain ⟨fy0_2, fg0_2⟩ := hx0 2 _ rfl
  obtain ⟨a0_2, ea0_2, w0_2⟩ := flat_cell 8 _ 3 _ _ 0 .i64 fg0_2 (by kernel_rfl)
  obtain rfl : e0_2 = .int .i64 a0_2 := by have h9 : ([e0_2] : List Value)[0]? = some (Value.int .i64 a0_2) := ea0_2; simpa using h9
  obtain ⟨fy0_3, fg0_3⟩ := hx0 3 _ rfl
  obtain ⟨a0_3, ea0_3, w0_3⟩ := flat_cell 8 _ 3 _ _ 0 .i64 fg0_3 (by kernel_rfl)
  obtain rfl : e0_3 = .int .i64 a0_3 := by have h9 : ([e0_3] : List Value)[0]? = some (Value.int .i64 a0_3) := ea0_3; simpa using h9
  obtain ⟨fy0_4, fg0_4⟩ := hx0 4 _ rfl
  obtain ⟨a0_4, ea0_4, w0_4⟩ := flat_cell 8 _ 37 _ _ 0 .i64 fg0_4 (by kernel_rfl)
  obtain rfl : e0_4 = .int .i64 a0_4 := by have h9 : ([e0_4, e0_5, e0_6, e0_7, e0_8] : List Value)[0]? = some (Value.int .i64 a0_4) := ea0_4; simpa using h9
  obtain ⟨a0_5, ea0_5, w0_5⟩ := flat_cell 8 _ 37 _ _ 1 .i64 fg0_4 (by kernel_rfl)
  obtain rfl : e0_5 = .int .i64 a0_5 := by have h9 : ([.int .i64 a0_4, e0_5, e0_6, e0_7, e0_8] : List Value)[1]? = some (Value.int .i64 a0_5) := ea0_5; simpa using h9
  obtain ⟨a0_6, ea0_6, w0_6⟩ := flat_cell 8 _ 37 _ _ 2 .i64 fg0_4 (by kernel_rfl)
  obtain rfl : e0_6 = .int .i64 a0_6 := by have h9 : ([.int .i64 a0_4, .int .i64 a0_5, e0_6, e0_7, e0_8] : List Value)[2]? = some (Value.int .i64 a0_6) := ea0_6; simpa using h9
  obtain ⟨a0_7, ea0_7, w0_7⟩ := flat_cell 8 _ 37 _ _ 3 .i64 fg0_4 (by kernel_rfl)
  obtain rfl : e0_7 = .int .i64 a0_7 := by have h9 : ([.int .i64 a0_4, .int .i64 a0_5, .int .i64 a0_6, e0_7, e0_8] : List Value)[3]? = some (Value.int .i64 a0_7) := ea0_7; simpa using h9
  obtain ⟨a0_8, ea0_8, w0_8⟩ := flat_cell 8 _ 37 _ _ 4 .i64 fg0_4 (by kernel_rfl)
  obtain rfl : e0_8 = .int .i64 a0_8 := by have h9 : ([.int .i64 a0_4, .int .i64 a0_5, .int .i64 a0_6, .int .i64 a0_7, e0_8] : List Value)[4]? = some (Value.int .i64 a0_8) := ea0_8; simpa using h9
  obtain ⟨fy0_5, fg0_5⟩ := hx0 5 _ rfl
  obtain ⟨sq0_9, sg0_9, so0_9, sn0_9, sk0_9, sl0_9, ee0_9, hl0_9, hk0_9, hm0_9, hp0_9, hg0_9, hc0_9⟩ := rows_of (n := 2) (D := 8) (fun _ => .i64) Try.underlying38 (by kernel_rfl) (by omega) (kinds_of (by kernel_rfl)) fg0_5
  obtain rfl : e0_9 = .slice sq0_9 sn0_9 sk0_9 := by have h9 : [e0_9] = [Value.slice sq0_9 sn0_9 sk0_9] := ee0_9; simpa using h9
  clear hA0 hval0
  refine (walk a0_0 (bounds_i64 w0_0) a0_1 (bounds_i64 w0_1) a0_2 (bounds_i64 w0_2) a0_3 (bounds_i64 w0_3) a0_4 (bounds_i64 w0_4) a0_5 (bounds_i64 w0_5) a0_6 (bounds_i64 w0_6) a0_7 (bounds_i64 w0_7) a0_8 (bounds_i64 w0_8) sq0_9 sg0_9 so0_9 sn0_9 sk0_9 sl0_9 hl0_9 hk0_9 hp0_9 hg0_9 hc0_9).mono fun e W' ⟨he, bel⟩ => ?_
  subst he
  exact ⟨_, rfl, _, _, _, [], _, [], hW', trodAll_mk1 (shut_bool Try.underlying4 _), (trodAll_cons_mk (Below.trod laidOut (by kernel_rfl) (of_decide_eq_true (by kernel_rfl)) k0 bel lt0) trodAll_mk0), rfl, bel.frame _, fun h => by cases h⟩

theorem over : Rows.streamNoneRow.holds Try.pinned (OpenSpec.ofChange Rows.streamNoneSpec) :=
  OpenClaim.holds_of_wide 7 Try.f7 rfl rfl rfl rfl rfl rfl rfl ⟨rfl, rfl, rfl, rfl, rfl⟩ rfl rfl rfl rfl rfl (by kernel_rfl) Try.func7 (by kernel_rfl)
    (of_decide_eq_true (by kernel_rfl)) (by unfold Func.isWrapper; first | (rw [if_pos (by decide +kernel)]; kernel_rfl) | (rw [if_neg (by decide +kernel)]; exact ⟨rfl, rfl⟩))
    (fun os started H enc _ => lifted os started H enc)

theorem proved : Rows.StreamNoneSaid := over
end Go.Proofs.Ytndmigjbdmkjdaa.streamNone
namespace Go.Proofs.Ytndmigjbdmkjdaa
theorem streamNone_holds : Rows.StreamNoneSaid := streamNone.proved
#print axioms streamNone_holds
end Go.Proofs.Ytndmigjbdmkjdaa
