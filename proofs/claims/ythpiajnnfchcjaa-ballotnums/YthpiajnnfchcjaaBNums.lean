/-
  Which numbers a register has, and which numbers are a register's, as the document says; there and back: estuarylaw09.BallotNums returns true for every input; no condition.
-/
import Derived.Test.YthpiajnnfchcjaaBlF
import Derived.Test.YthpiajnnfchcjaaBlG
import Derived.Test.YthpiajnnfchcjaaBlJ
import Derived.Test.YthpiajnnfchcjaaFrL
import Derived.ProofKit
import Derived.OpenShut
import Derived.ChangeOld
import Derived.Below
namespace Go.Proofs.Ythpiajnnfchcjaa.ballotNums
open Go.ChangeShapes Go.WideShapes Go.ChangeAt Go.RowKit Go.Joins
set_option linter.unusedVariables false

theorem ints_is (v u : Value) (l m : List Int) (w : World) (hv : Is w v l) (hu : Is w u m) (hl : l.length ≤ 100000) (hm : m.length ≤ 100000) :
    Calls Try.prog 22 #[v, u] w fun e w' => e = .returned (.bool (decide (l = m))) ∧ Below w.heap.size w w' := by
  obtain ⟨q, cap, g, off, rfl, h1, h2, h3, h4, h5⟩ := hv
  obtain ⟨q', cap', g', off', rfl, k1, k2, k3, k4, k5⟩ := hu
  exact ints_any _ _ _ _ _ l _ _ _ _ _ m w rfl rfl hl hm h3 k3 h5 k5 h4 k4
theorem tk_back (r : Rg) : tkO (nmR r) = r := by
  obtain ⟨⟨a, b, c⟩, ⟨d, e, f⟩, l⟩ := r
  simp [tkO, nmR, nmB]
theorem tkB_back (r : Rg) : tkB (nmR r) = gdR r := by
  rw [tkB_long (by simp [nmR, nmB]), tk_back]
theorem nm_len (r : Rg) : (nmR r).length = 6 + r.l.length := by simp [nmR, nmB]; omega
theorem tkR_le (m : List Int) : (tkR m).l.length ≤ 32 := by
  cases h : tkB m
  · rw [tkR_no h]; decide
  · have h2 := h
    unfold tkB at h2
    rw [Bool.and_eq_true] at h2
    rw [tkR_ok h]
    exact gd_le h2.2
set_option maxHeartbeats 2000000 in
set_option maxRecDepth 100000 in
theorem nums_walk (r : Rg) (v u : Value) (m : List Int) (w : World) (hv : Is w v r.l) (hu : Is w u m) :
    Calls Try.prog 6 #[rV r.p r.a v, u] w fun e w' => e = .returned (.bool true) ∧ Below w.heap.size w w' := by
  obtain ⟨q, c, e⟩ := hv.form
  subst e
  obtain ⟨qu, cu, e⟩ := hu.form
  subst e
  obtain ⟨n, hn⟩ : ∃ n, r.l.length = n := ⟨_, rfl⟩
  obtain ⟨k, hk⟩ : ∃ k, m.length = k := ⟨_, rfl⟩
  rw [hn] at hv ⊢
  rw [hk] at hu ⊢
  go_enter Try.func6, Try.ntmps6
  go_upto_region 1 with fail
  obtain ⟨A, hAe, hR, hw⟩ := blk1 w (rC r.p r.a (.slice q n c)) 31
  rw [hAe]
  clear hAe
  go_upto_region 3 with (go_at_call 11; refine (alive9_any _).mono ?_; rintro e W1 ⟨rfl, b1⟩)
  have hR1 := hR.keep b1
  have hw1 := ab_trans hw b1
  clear hR hw b1
  have y6 : W1.cell? ⟨w.heap.size, 6, none⟩ = some (.slice q n c) := hR1.at rfl
  by_cases c1 : n ≤ 500
  rotate_left
  · have c2 : ¬ (n : Int) ≤ 500 := by omega
    go_wp2_with fail
    go_ret
    exact ⟨rfl, hw1⟩
  by_cases c2 : k ≤ 500
  rotate_left
  · have c3 : ¬ (k : Int) ≤ 500 := by omega
    have c4 : (n : Int) ≤ 500 := by omega
    go_wp2_with fail
    go_ret
    exact ⟨rfl, hw1⟩
  have c3 : (k : Int) ≤ 500 := by omega
  have c4 : (n : Int) ≤ 500 := by omega
  go_upto_region 5 with fail
  clear y6 c3 c4
  obtain ⟨x0, x1, x2, x3, x4, x5, x6⟩ := cells7 hR1
  have hbv := Below.refl W1.heap.size W1
  go_upto_region 6 with (go_at_call 12; refine (copied9_any r.p r.a _ r.l _ (hv.keep hw1) (by omega)).mono ?_; rintro e W2 ⟨vc, rfl, hC2, b2⟩; obtain ⟨qc, cc, ec⟩ := hC2.is.form; rw [hn] at ec; subst ec)
  obtain ⟨V2, hE, hX2, b2'⟩ := blk1 W2 (rC r.p r.a (.slice qc n cc)) 31
  rw [hE]
  have hR2 := hR1.keep (ab_trans b2 b2')
  have hw2 := ab_trans hw1 (ab_trans b2 b2')
  have hC := hC2.keep b2'
  clear hE x0 x1 x2 x3 x4 x5 x6 hbv hR1 hw1 hC2 b2 b2'
  generalize W2.heap.size = g2 at *
  obtain ⟨x0, x1, x2, x3, x4, x5, x6⟩ := cells7 hX2
  have hbv := Below.refl V2.heap.size V2
  go_upto_region 7 with (go_at_call 24; refine (nums9_any r _ _ hC.is (by omega)).mono ?_; rintro e W3 ⟨v3, rfl, hO3, b3⟩)
  have hR3 := hR2.keep b3
  have hX3 := hX2.keep b3
  have hw3 := ab_trans hw2 b3
  have hC3 := hC.keep b3
  clear x0 x1 x2 x3 x4 x5 x6 hbv hR2 hX2 hw2 hC b3
  go_upto_region 8 with (go_at_call 25; refine (take9_any _ m _ (hu.keep hw3)).mono ?_; rintro e W4 ⟨⟨q4, n4, c4, rfl, hO4, hn4⟩, b4⟩)
  have HL : Hid ((tkR m).l.length ≤ 32) := tkR_le m
  obtain ⟨R, hRe⟩ : ∃ R, tkR m = R := ⟨_, rfl⟩
  rw [hRe] at HL hO4 hn4 ⊢
  obtain ⟨V4, hE, hS4, b4'⟩ := blk1 W4 (rC R.p R.a (.slice q4 n4 c4)) 31
  rw [hE]
  have hR4 := hR3.keep (ab_trans b4 b4')
  have hX4 := hX3.keep (ab_trans b4 b4')
  have hw4 := ab_trans hw3 (ab_trans b4 b4')
  have hC4 := hC3.keep (ab_trans b4 b4')
  have hN4 := hO3.keep (ab_trans b4 b4')
  have hI4 := hO4.is.keep b4'
  clear hE hR3 hX3 hw3 hC3 hO3 hO4 b4 b4'
  generalize W4.heap.size = g4 at *
  go_upto_region 9 with (go_at_call 26; refine (rtake9_any _ m _ (hu.keep hw4) (by omega)).mono ?_; rintro e W5 ⟨⟨q5, n5, c5, rfl, hI5, hn5⟩, b5⟩; rw [hRe] at hI5 hn5 ⊢)
  obtain ⟨V5, hE, hU5, b5'⟩ := blk1 W5 (rC R.p R.a (.slice q5 n5 c5)) 31
  rw [hE]
  have hR5 := hR4.keep (ab_trans b5 b5')
  have hX5 := hX4.keep (ab_trans b5 b5')
  have hw5 := ab_trans hw4 (ab_trans b5 b5')
  have hC5 := hC4.keep (ab_trans b5 b5')
  have hN5 := hN4.keep (ab_trans b5 b5')
  have hS5 := hS4.keep (ab_trans b5 b5')
  have hI5' := hI4.keep (ab_trans b5 b5')
  have hJ5 := hI5.keep b5'
  clear hE hR4 hX4 hw4 hC4 hN4 hS4 hI4 hI5 b5 b5' hRe
  generalize W5.heap.size = g5 at *
  generalize tkB m = tb at *
  have hnm := nm_len r
  obtain ⟨x0, x1, x2, x3, x4, x5, x6⟩ := cells7 hR5
  have hbv := Below.refl V5.heap.size V5
  have htb : (tb != tb) = false := by simp
  go_wp2_with fail
  refine (rnums9_any r _ _ (hv.keep (ab_trans hw5 hbv)) (by omega)).mono ?_
  rintro e W6 ⟨v6, rfl, hO6, b6⟩
  have hbv := ab_trans hbv b6
  go_wp2_with fail
  refine (ints_is _ _ (nmR r) (nmR r) _ (hN5.is.keep hbv) hO6.is (by omega) (by omega)).mono ?_
  rintro e W7 ⟨rfl, b7⟩
  rw [decide_eq_true (rfl : nmR r = nmR r)]
  have hbv := ab_trans hbv b7
  obtain ⟨s0, s1, s2, s3, s4, s5, s6⟩ := cells7 hS5
  obtain ⟨u0, u1, u2, u3, u4, u5, u6⟩ := cells7 hU5
  clear hnm
  go_wp2_with fail
  refine (same9_yes R _ _ _ (hI5'.keep hbv) (hJ5.keep hbv) (by have := HL.out; omega)).mono ?_
  rintro e W8 ⟨rfl, b8⟩
  have hbv := ab_trans hbv b8
  clear s0 s1 s2 s3 s4 s5 s6 u0 u1 u2 u3 u4 u5 u6
  obtain ⟨s0, s1, s2, s3, s4, s5, s6⟩ := cells7 hX5
  go_wp2_with fail
  refine (kept9_any r _ _ _ _ (hC5.keep hbv) (hv.keep (ab_trans hw5 hbv)) (by omega)).mono ?_
  rintro e W9 ⟨rfl, b9⟩
  have hbv := ab_trans hbv b9
  go_upto_region 11 with fail
  clear s0 s1 s2 s3 s4 s5 s6 htb
  have HK : Hid (tkB (nmR r) = gdR r) := tkB_back r
  have HK2 : Hid (gdR r = true → tkR (nmR r) = r) := fun h => by rw [tkR_ok ((tkB_back r).trans h), tk_back]
  have HG : Hid (gdN r.p r.a n = gdR r) := by show _ = _; unfold gdR; rw [hn]
  have hN9 := hN5.is.keep hbv
  have hR9 := hR5.keep hbv
  have hw9 := ab_trans hw5 hbv
  clear x0 x1 x2 x3 x4 x5 x6 hX5 hC5 hN5 hS5 hI5' hJ5 hU5 b6 b7 b8 b9 hO6
  go_upto_region 12 with (go_at_call 25; refine (take9_any _ (nmR r) _ hN9).mono ?_; rintro e W10 ⟨⟨qa, na, ca, rfl, hOa, hna⟩, ba⟩; rw [HK.out])
  obtain ⟨T, hTe⟩ : ∃ T, tkR (nmR r) = T := ⟨_, rfl⟩
  rw [hTe] at HK2 hOa hna ⊢
  obtain ⟨Va, hE, hBa, ba'⟩ := blk1 W10 (rC T.p T.a (.slice qa na ca)) 31
  rw [hE]
  have hRa := hR9.keep (ab_trans ba ba')
  have hwa := ab_trans hw9 (ab_trans ba ba')
  have hIa := hOa.is.keep ba'
  clear hE hR9 hw9 hOa ba ba' hTe
  generalize W10.heap.size = ga at *
  obtain ⟨x0, x1, x2, x3, x4, x5, x6⟩ := cells7 hRa
  obtain ⟨y0, y1, y2, y3, y4, y5, y6⟩ := cells7 hBa
  have hbv := Below.refl Va.heap.size Va
  cases hg : gdR r
  · rw [hg] at HG
    clear HK2
    go_wp2_with fail
    refine (good9_any r.p r.a q n c _).mono ?_
    rintro e Wb ⟨rfl, bb⟩
    rw [HG.out]
    have hbv := ab_trans hbv bb
    go_wp2_with fail
    go_ret
    exact ⟨rfl, ab_trans hwa hbv⟩
  · rw [hg] at HG
    obtain rfl := HK2.out hg
    clear HK2
    go_wp2_with fail
    refine (good9_any T.p T.a q n c _).mono ?_
    rintro e Wb ⟨rfl, bb⟩
    rw [HG.out]
    have hbv := ab_trans hbv bb
    go_wp2_with fail
    refine (same9_yes T _ _ _ (hIa.keep hbv) (hv.keep (ab_trans hwa hbv)) (by omega)).mono ?_
    rintro e Wc ⟨rfl, bc⟩
    have hbv := ab_trans hbv bc
    go_wp2_with fail
    go_ret
    exact ⟨rfl, ab_trans hwa hbv⟩
theorem walk {W : World} (a0 : Int) (_ : -9223372036854775808 ≤ a0 ∧ a0 ≤ 9223372036854775807) (a1 : Int) (_ : -9223372036854775808 ≤ a1 ∧ a1 ≤ 9223372036854775807) (a2 : Int) (_ : -9223372036854775808 ≤ a2 ∧ a2 ≤ 9223372036854775807)
    (b0 : Int) (_ : -9223372036854775808 ≤ b0 ∧ b0 ≤ 9223372036854775807) (b1 : Int) (_ : -9223372036854775808 ≤ b1 ∧ b1 ≤ 9223372036854775807) (b2 : Int) (_ : -9223372036854775808 ≤ b2 ∧ b2 ≤ 9223372036854775807)
    (v : Value) (l : List Int) (hv : Is W v l) (_ : In64 l) (u : Value) (m : List Int) (hu : Is W u m) (_ : In64 m) :
    Calls Try.prog 6 #[.agg #[.int .i64 a0, .int .i64 a1, .int .i64 a2, .int .i64 b0, .int .i64 b1, .int .i64 b2, v], u] W fun e w' => e = .returned (.bool true) ∧ Below W.heap.size W w' :=
  nums_walk ⟨⟨a0, a1, a2⟩, ⟨b0, b1, b2⟩, l⟩ v u m W hv hu
theorem own : ownKnob Try.prog.godebug = none := by kernel_rfl
theorem laidOut : laidOutB Try.prog = true := by kernel_rfl

set_option maxRecDepth 100000 in
theorem lifted (os : Os) (started : os.Started) (H : Type) (enc : TypeId × Value → H) :
    ReturnsInHanded {} Try.checked os 6 .any (Rows.ballotNumsSpec.pre6 enc Try.prog Try.f6 Rows.ballotNumsRow.domain false) (Rows.ballotNumsSpec.post enc Try.prog Try.f6 false true false false) := by
  refine returnsInHanded_of_change (C := Try.checked) own started (by kernel_rfl) Try.func6
    (ChangeSpec.witness6 (enc := enc) (C := Try.checked) false ⟨#[], #[.agg #[.int .i64 0, .int .i64 0, .int .i64 0, .int .i64 0, .int .i64 0, .int .i64 0, .slice none 0 0], .slice none 0 0], []⟩ 8 (by kernel_rfl) (by kernel_rfl) (by kernel_rfl) (by kernel_rfl)) ?_
  intro W base args ds gs before hval0 hW hcnd _
  have hval : ∀ (j : Nat) t v, Try.f6.params[j]? = some t → args[j]? = some v → Value.okWide Try.prog W .any base t v := hval0
  have hW' := hW
  obtain ⟨p, q, hA0, hV, rfl, hfz, hnd⟩ := hW
  have hA : DataW.TrodAll enc Try.prog W 0 (fun _ => true) true Try.f6.params.toList args.toList ds p := hA0
  rw [Try.params6] at hA hval
  obtain ⟨v0, vs0, d0, ds0, p0, q0, hargs, rfl, rfl, h0, r0⟩ := trodAll_cons hA
  obtain ⟨v1, vs1, d1, ds1, p1, q1, rfl, rfl, rfl, h1, r1⟩ := trodAll_cons r0
  obtain ⟨rfl, rfl, rfl⟩ := trodAll_nil r1
  obtain rfl : args = #[v0, v1] := by cases args; simp_all
  obtain ⟨rfl, rfl⟩ := trodVars_none hV
  have k0 := h0
  have lt0 : ∀ x ∈ p0, x.block < W.heap.size := by obtain ⟨m, hm⟩ := k0; exact DataW.trod_lt m _ _ _ hm
  have k1 := h1
  have lt1 : ∀ x ∈ p1, x.block < W.heap.size := by obtain ⟨m, hm⟩ := k1; exact DataW.trod_lt m _ _ _ hm
  obtain ⟨cs0, rfl, hz0, fm0, hx0⟩ := open_struct (n := 7) Try.underlying31 (by kernel_rfl) (hval 0 31 v0 rfl rfl) h0
  obtain ⟨e0_0, e0_1, e0_2, e0_3, e0_4, e0_5, e0_6, rfl⟩ : ∃ e0_0 e0_1 e0_2 e0_3 e0_4 e0_5 e0_6, cs0 = #[e0_0, e0_1, e0_2, e0_3, e0_4, e0_5, e0_6] := by
    refine ⟨cs0[0], cs0[1], cs0[2], cs0[3], cs0[4], cs0[5], cs0[6], ?_⟩
    apply Array.ext
    · simpa using hz0
    · intro i h1 h2
      have : i = 0 ∨ i = 1 ∨ i = 2 ∨ i = 3 ∨ i = 4 ∨ i = 5 ∨ i = 6 := by omega
      rcases this with rfl | rfl | rfl | rfl | rfl | rfl | rfl <;> rfl
  obtain ⟨fy0_0, fg0_0⟩ := hx0 0 _ rfl
  obtain ⟨a0_0, ea0_0, w0_0⟩ := flat_cell 8 _ 23 _ _ 0 .i64 fg0_0 (by kernel_rfl)
  obtain rfl : e0_0 = .int .i64 a0_0 := by have h9 : ([e0_0, e0_1, e0_2] : List Value)[0]? = some (Value.int .i64 a0_0) := ea0_0; simpa using h9
  obtain ⟨a0_1, ea0_1, w0_1⟩ := flat_cell 8 _ 23 _ _ 1 .i64 fg0_0 (by kernel_rfl)
  obtain rfl : e0_1 = .int .i64 a0_1 := by have h9 : ([.int .i64 a0_0, e0_1, e0_2] : List Value)[1]? = some (Value.int .i64 a0_1) := ea0_1; simpa using h9
  obtain ⟨a0_2, ea0_2, w0_2⟩ := flat_cell 8 _ 23 _ _ 2 .i64 fg0_0 (by kernel_rfl)
  obtain rfl : e0_2 = .int .i64 a0_2 := by have h9 : ([.int .i64 a0_0, .int .i64 a0_1, e0_2] : List Value)[2]? = some (Value.int .i64 a0_2) := ea0_2; simpa using h9
  obtain ⟨fy0_1, fg0_1⟩ := hx0 1 _ rfl
  obtain ⟨a0_3, ea0_3, w0_3⟩ := flat_cell 8 _ 23 _ _ 0 .i64 fg0_1 (by kernel_rfl)
  obtain rfl : e0_3 = .int .i64 a0_3 := by have h9 : ([e0_3, e0_4, e0_5] : List Value)[0]? = some (Value.int .i64 a0_3) := ea0_3; simpa using h9
  obtain ⟨a0_4, ea0_4, w0_4⟩ := flat_cell 8 _ 23 _ _ 1 .i64 fg0_1 (by kernel_rfl)
  obtain rfl : e0_4 = .int .i64 a0_4 := by have h9 : ([.int .i64 a0_3, e0_4, e0_5] : List Value)[1]? = some (Value.int .i64 a0_4) := ea0_4; simpa using h9
  obtain ⟨a0_5, ea0_5, w0_5⟩ := flat_cell 8 _ 23 _ _ 2 .i64 fg0_1 (by kernel_rfl)
  obtain rfl : e0_5 = .int .i64 a0_5 := by have h9 : ([.int .i64 a0_3, .int .i64 a0_4, e0_5] : List Value)[2]? = some (Value.int .i64 a0_5) := ea0_5; simpa using h9
  obtain ⟨fy0_2, fg0_2⟩ := hx0 2 _ rfl
  obtain ⟨sq0_6, sg0_6, so0_6, sn0_6, sk0_6, sl0_6, ee0_6, hl0_6, hk0_6, hm0_6, hp0_6, hg0_6, hc0_6⟩ := rows_of (n := 1) (D := 8) (fun _ => .i64) Try.underlying29 (by kernel_rfl) (by omega) (kinds_of (by kernel_rfl)) fg0_2
  obtain rfl : e0_6 = .slice sq0_6 sn0_6 sk0_6 := by have h9 : [e0_6] = [Value.slice sq0_6 sn0_6 sk0_6] := ee0_6; simpa using h9
  obtain ⟨S0_6_, B0_6_⟩ := is_rows hl0_6 hk0_6 hm0_6 hp0_6 hg0_6 hc0_6
  obtain ⟨l1_, S1_, B1_⟩ := open_nums (hval 1 29 v1 rfl rfl) h1
  clear hA0 hval0
  refine (walk a0_0 (bounds_i64 w0_0) a0_1 (bounds_i64 w0_1) a0_2 (bounds_i64 w0_2) a0_3 (bounds_i64 w0_3) a0_4 (bounds_i64 w0_4) a0_5 (bounds_i64 w0_5) (.slice sq0_6 sn0_6 sk0_6) _ S0_6_ B0_6_ v1 l1_ S1_ B1_).mono fun e W' ⟨he, bel⟩ => ?_
  subst he
  exact ⟨_, rfl, _, _, _, [], _, [], hW', trodAll_mk1 (shut_bool Try.underlying4 _), (trodAll_cons_mk (Below.trod laidOut (by kernel_rfl) (of_decide_eq_true (by kernel_rfl)) k0 bel lt0) (trodAll_cons_mk (Below.trod laidOut (by kernel_rfl) (of_decide_eq_true (by kernel_rfl)) k1 bel lt1) trodAll_mk0)), rfl, bel.frame _, fun h => by cases h⟩

theorem over : Rows.ballotNumsRow.holds Try.pinned (OpenSpec.ofChange Rows.ballotNumsSpec) :=
  OpenClaim.holds_of_wide 6 Try.f6 rfl rfl rfl rfl rfl rfl rfl ⟨rfl, rfl, rfl, rfl, rfl⟩ rfl rfl rfl rfl rfl (by kernel_rfl) Try.func6 (by kernel_rfl)
    (of_decide_eq_true (by kernel_rfl)) (by unfold Func.isWrapper; first | (rw [if_pos (by decide +kernel)]; kernel_rfl) | (rw [if_neg (by decide +kernel)]; exact ⟨rfl, rfl⟩))
    (fun os started H enc _ => lifted os started H enc)

theorem proved : Rows.BallotNumsSaid := over
end Go.Proofs.Ythpiajnnfchcjaa.ballotNums
namespace Go.Proofs.Ythpiajnnfchcjaa
theorem ballotNums_holds : Rows.BallotNumsSaid := ballotNums.proved
#print axioms ballotNums_holds
end Go.Proofs.Ythpiajnnfchcjaa
