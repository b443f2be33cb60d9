/-
  Just so many steps are made as a tape is armed with, and one is refused where it is to be: estuarylaw06.TapeSteps returns true for every input; no condition.
-/
import Derived.Test.YtoofgidmegplbaaTpH
import Derived.ProofKit
import Derived.OpenShut
import Derived.ChangeOld
import Derived.Below
import Derived.Lib.SmallJoins
namespace Go.Proofs.Ytoofgidmegplbaa.tapeSteps
open Go.ChangeShapes Go.WideShapes Go.ChangeAt Go.RowKit Go.Joins
set_option linter.unusedVariables false

theorem flat1l (a : List Nat) : [a].flatten = a := by simp
theorem modN (t : Int) (m : Nat) (hm : 0 < m) (hb : m ≤ 1000) : ∃ k : Nat, k < m ∧ wrap64 ((IntKind.u64.wrap t).tmod (m : Int)) = ((k : Nat) : Int) := by
  have h0 : 0 ≤ t % 18446744073709551616 := Int.emod_nonneg _ (by decide)
  rw [IntKind.wrap_u64]
  generalize t % 18446744073709551616 = T at *
  obtain ⟨u, rfl⟩ := Int.eq_ofNat_of_zero_le h0
  have := Nat.mod_lt u hm
  refine ⟨u % m, this, ?_⟩
  rw [Int.tmod_eq_emod_of_nonneg h0, ← Int.natCast_emod]
  generalize u % m = z at *
  unfold wrap64
  omega
/-- The tape behind i calls. -/
structure Inv (A F i : Nat) (S : TS) : Prop where
  steps : S.steps = min i A
  len : S.l.length = min i A - (if F < min i A then 1 else 0)
  down : S.down = decide (A < i)
  os : i ≤ A → S.os = true ∧ S.oa = A - i
  rs : i ≤ A → S.rs = decide (i ≤ F)
  ra : i ≤ A → i ≤ F → S.ra = F - i
theorem inv0 (A F : Nat) : Inv A F 0 ⟨[], 0, 0, true, A, true, F, false⟩ := ⟨by simp, by simp, by simp, by simp, by simp, by simp⟩
theorem stN_inv {A F i : Nat} {S : TS} (h : Inv A F i S) : stN S = if A ≤ i then 5 else if i = F then 6 else 0 := by
  unfold stN duF
  rw [h.down]
  by_cases h1 : A < i
  · simp [h1, Nat.le_of_lt h1]
  · have hi : i ≤ A := by omega
    rw [(h.os hi).1, (h.os hi).2, h.rs hi]
    by_cases h2 : A = i
    · subst h2; simp
    · have h3 : ¬ A ≤ i := by omega
      have h4 : ¬ A - i = 0 := by omega
      by_cases h5 : i ≤ F
      · rw [h.ra hi h5]
        by_cases h6 : i = F
        · subst h6; simp [h1, h3, h4]
        · have h7 : ¬ F - i = 0 := by omega
          simp [h1, h3, h4, h5, h6, h7]
      · have h6 : ¬ i = F := by omega
        simp [h1, h3, h4, h5, h6]
theorem inv_next {A F i : Nat} {S : TS} (h : Inv A F i S) (m : List Nat) (hm : m.length = 1) (hA : A < 1000) : Inv A F (i + 1) (apS S m) := by
  have hn := stN_inv h
  have hl := h.len
  have hlen : S.l.length ≤ 1000 := by omega
  unfold apS
  rw [if_pos (by omega)]
  by_cases h1 : A ≤ i
  · rw [if_pos h1] at hn
    rw [if_neg (by omega)]
    unfold stS
    by_cases h2 : A < i
    · rw [if_pos (by rw [h.down]; simpa using h2)]
      exact ⟨by rw [h.steps]; omega, by rw [h.len, show min (i + 1) A = min i A by omega], by rw [h.down]; simp; omega, fun h => by omega, fun h => by omega, fun h => by omega⟩
    · obtain rfl : A = i := by omega
      have ho := h.os (Nat.le_refl _)
      rw [if_neg (by rw [h.down]; simp), if_pos (by unfold duF; rw [ho.1, ho.2]; simp)]
      exact ⟨by show S.steps = _; rw [h.steps]; omega, by show S.l.length = _; rw [h.len, show min (A + 1) A = min A A by omega], by simp, fun h => by omega, fun h => by omega, fun h => by omega⟩
  · have hi : i ≤ A := by omega
    rw [if_neg h1] at hn
    have ho := h.os hi
    have hr := h.rs hi
    have hS : stS S = { S with os := duS S.os S.oa, oa := duA S.os S.oa, steps := S.steps + 1, rs := duS S.rs S.ra, ra := duA S.rs S.ra } := by
      unfold stS
      rw [if_neg (by rw [h.down]; simp; omega), if_neg (by unfold duF; rw [ho.1, ho.2]; simp; omega)]
    have hmin : min i A = i := by omega
    have hmin1 : min (i + 1) A = i + 1 := by omega
    rw [hmin] at hl
    have hos : duS S.os S.oa = true := by unfold duS; rw [ho.1, ho.2]; simp; omega
    have hoa : duA S.os S.oa = A - (i + 1) := by unfold duA; rw [ho.1, ho.2]; simp; omega
    have hrs : duS S.rs S.ra = decide (i + 1 ≤ F) := by
      unfold duS; rw [hr]
      by_cases h5 : i ≤ F
      · rw [h.ra hi h5]
        by_cases h6 : i = F
        · subst h6; simp
        · have h7 : ¬ F - i = 0 := by omega
          have h8 : i + 1 ≤ F := by omega
          simp [h5, h7, h8]
      · have h8 : ¬ i + 1 ≤ F := by omega
        simp [h5, h8]
    have hra : i + 1 ≤ F → duA S.rs S.ra = F - (i + 1) := fun h8 => by
      have h5 : i ≤ F := by omega
      unfold duA; rw [hr, h.ra hi h5]
      simp [h5]; omega
    have hst := h.steps
    by_cases h6 : i = F
    · rw [if_pos h6] at hn
      rw [if_neg (by omega), hS]
      exact ⟨by show S.steps + 1 = _; omega, by show S.l.length = _; rw [hl, hmin1]; subst h6; simp, by show S.down = _; rw [h.down]; simp; omega, fun _ => ⟨hos, hoa⟩, fun _ => hrs, fun _ => hra⟩
    · rw [if_neg h6] at hn
      rw [if_pos hn, hS]
      refine ⟨by show S.steps + 1 = _; omega, ?_, by show S.down = _; rw [h.down]; simp; omega, fun _ => ⟨hos, hoa⟩, fun _ => hrs, fun _ => hra⟩
      show (S.l ++ m).length = _
      rw [List.length_append, hl, hm, hmin1]
      split <;> split <;> omega
set_option maxRecDepth 100000 in
set_option maxHeartbeats 2000000 in
theorem walk (a : Int) (ha : -9223372036854775808 ≤ a ∧ a ≤ 9223372036854775807) (f : Int) (hf : -9223372036854775808 ≤ f ∧ f ≤ 9223372036854775807) (c : Int) (hc : -9223372036854775808 ≤ c ∧ c ≤ 9223372036854775807) (W : World) :
    Calls Try.prog 5 #[.int .i64 a, .int .i64 f, .int .i64 c] W fun e w' => e = .returned (.bool true) ∧ Below W.heap.size W w' := by
  obtain ⟨A, hA, HA⟩ := modN a 40 (by omega) (by omega)
  obtain ⟨F, hF, HF⟩ := modN f 40 (by omega) (by omega)
  obtain ⟨C, hC, HC⟩ := modN c 60 (by omega) (by omega)
  go_enter Try.func5, Try.ntmps5
  go_upto_region 3 with (go_at_call 9; refine (alive6_any _).mono ?_; rintro e V1 ⟨rfl, hb1⟩)
  go_upto_region 4 with fail
  rw [show wrap64 ((IntKind.u64.wrap a).tmod 40) = (A : Int) from HA, show wrap64 ((IntKind.u64.wrap f).tmod 40) = (F : Int) from HF, show wrap64 ((IntKind.u64.wrap c).tmod 60) = (C : Int) from HC]
  clear HA HF HC
  go_upto_region 5 with (go_at_call 11; refine (new_any _).mono ?_; rintro e V2 ⟨rfl, h2', b2⟩; have h2 := h2'.less hb1.size; have bw2 := ab_trans hb1 b2; clear h2')
  go_wp2_with (first
    | (go_at_call 21; refine (arm_ok _ _ _ _ A _ h2 (by omega)).mono ?_; rintro e V3 ⟨rfl, h3, m3⟩)
    | (go_at_call 22; refine (fail_ok _ _ _ _ F _ h3 (by omega)).mono ?_; rintro e V4 ⟨rfl, h4, m4⟩))
  have bw4 := bw2.trans (h2.below (m3.trans m4))
  have I0 := inv0 A F
  clear m3 m4 h3 h2 bw2
  go_loopw [8] (fun x wr => ∃ (i : Nat) (v : Value) (S : TS), i ≤ C ∧ x = .int .i64 (i : Int) ∧ Tp wr W.heap.size V1.heap.size v S ∧ Inv A F i S ∧ Below W.heap.size W wr) (fun x _ => C - (intOf x).toNat)
  case atStart => exact ⟨0, _, _, by omega, rfl, h4, I0, bw4⟩
  case round =>
    clear h4 I0 bw4
    obtain ⟨i, v, S, hi, rfl, h5, I5, bw5⟩ := hrel
    by_cases hiC : i = C
    · subst hiC
      have hst := I5.steps
      have hln := I5.len
      have hdn := I5.down
      have c2 := h5.oct.c2
      have c7 := h5.oct.c7
      rw [hst] at c2
      rw [hdn] at c7
      have HR := tread_any _ _ _ _ _ h5
      clear I5
      by_cases hAi : A < i
      · have hAi' : (A : Int) < (i : Int) := by omega
        have hm : min i A = A := by omega
        rw [hm] at c2 hln
        rw [decide_eq_true hAi] at c7 hdn
        by_cases hFA : F < A
        · have hFA' : (F : Int) < (A : Int) := by omega
          rw [if_pos hFA] at hln
          have HLn : Hid (∀ v' w', Sl w' v' S.l → ∃ q c, v' = .slice q (A - 1) c) := fun v' w' h => by obtain ⟨q, c, e, -⟩ := h; exact ⟨q, c, by rw [← hln]; exact e⟩
          clear hst hln hdn hm
          have hcast : ((A - 1 : Nat) : Int) = (A : Int) - 1 := by omega
          go_wp2_with (first
            | (go_at_call 14; refine (steps_any _ _ _ c2).mono ?_; rintro e X ⟨rfl, hX⟩; subst X)
            | (go_at_call 16; refine HR.mono ?_; rintro e V9 ⟨v9, rfl, O9, b9⟩; obtain ⟨q9, cap9, e9⟩ := HLn.out v9 V9 O9.sl; have c7' := keep_cell b9 c7 h5.blk.lt; subst e9)
            | (go_at_call 15; refine (down_any _ _ _ c7').mono ?_; rintro e X ⟨rfl, hX⟩; subst X))
          go_ret
          exact ⟨rfl, bw5.trans (b9.mono bw5.size)⟩
        · have hFA' : ¬ (F : Int) < (A : Int) := by omega
          rw [if_neg hFA, Nat.sub_zero] at hln
          have HLn : Hid (∀ v' w', Sl w' v' S.l → ∃ q c, v' = .slice q A c) := fun v' w' h => by obtain ⟨q, c, e, -⟩ := h; exact ⟨q, c, by rw [← hln]; exact e⟩
          clear hst hln hdn hm
          go_wp2_with (first
            | (go_at_call 14; refine (steps_any _ _ _ c2).mono ?_; rintro e X ⟨rfl, hX⟩; subst X)
            | (go_at_call 16; refine HR.mono ?_; rintro e V9 ⟨v9, rfl, O9, b9⟩; obtain ⟨q9, cap9, e9⟩ := HLn.out v9 V9 O9.sl; have c7' := keep_cell b9 c7 h5.blk.lt; subst e9)
            | (go_at_call 15; refine (down_any _ _ _ c7').mono ?_; rintro e X ⟨rfl, hX⟩; subst X))
          go_ret
          exact ⟨rfl, bw5.trans (b9.mono bw5.size)⟩
      · have hAi' : ¬ (A : Int) < (i : Int) := by omega
        have hmi : (if i < A then (i : Int) else (A : Int)) = (i : Int) := by split <;> omega
        have hm : min i A = i := by omega
        rw [hm] at c2 hln
        rw [decide_eq_false hAi] at c7 hdn
        by_cases hFA : F < i
        · have hFA' : (F : Int) < (i : Int) := by omega
          rw [if_pos hFA] at hln
          have HLn : Hid (∀ v' w', Sl w' v' S.l → ∃ q c, v' = .slice q (i - 1) c) := fun v' w' h => by obtain ⟨q, c, e, -⟩ := h; exact ⟨q, c, by rw [← hln]; exact e⟩
          clear hst hln hdn hm
          have hcast : ((i - 1 : Nat) : Int) = (i : Int) - 1 := by omega
          go_wp2_with (first
            | (go_at_call 14; refine (steps_any _ _ _ c2).mono ?_; rintro e X ⟨rfl, hX⟩; subst X)
            | (go_at_call 16; refine HR.mono ?_; rintro e V9 ⟨v9, rfl, O9, b9⟩; obtain ⟨q9, cap9, e9⟩ := HLn.out v9 V9 O9.sl; have c7' := keep_cell b9 c7 h5.blk.lt; subst e9)
            | (go_at_call 15; refine (down_any _ _ _ c7').mono ?_; rintro e X ⟨rfl, hX⟩; subst X))
          go_ret
          exact ⟨rfl, bw5.trans (b9.mono bw5.size)⟩
        · have hFA' : ¬ (F : Int) < (i : Int) := by omega
          rw [if_neg hFA, Nat.sub_zero] at hln
          have HLn : Hid (∀ v' w', Sl w' v' S.l → ∃ q c, v' = .slice q i c) := fun v' w' h => by obtain ⟨q, c, e, -⟩ := h; exact ⟨q, c, by rw [← hln]; exact e⟩
          clear hst hln hdn hm
          go_wp2_with (first
            | (go_at_call 14; refine (steps_any _ _ _ c2).mono ?_; rintro e X ⟨rfl, hX⟩; subst X)
            | (go_at_call 16; refine HR.mono ?_; rintro e V9 ⟨v9, rfl, O9, b9⟩; obtain ⟨q9, cap9, e9⟩ := HLn.out v9 V9 O9.sl; have c7' := keep_cell b9 c7 h5.blk.lt; subst e9)
            | (go_at_call 15; refine (down_any _ _ _ c7').mono ?_; rintro e X ⟨rfl, hX⟩; subst X))
          go_ret
          exact ⟨rfl, bw5.trans (b9.mono bw5.size)⟩
    · have hin : i < C := by omega
      have hii : (i : Int) < (C : Int) := by omega
      have hstep := I5.steps
      have hst : S.steps < 4611686018427387904 := by omega
      have hNN := stN_inv I5
      have hlen := I5.len
      have hapN : Hid (apN S 1 = stN S) := if_pos (by omega)
      clear hlen
      go_wp2_with (first
        | (refine bs_by rfl rfl [i] (vs := #[(0, .int .u8 ((i : Nat) : Int))]) (by simp only [List.map_toArray, List.map_cons, List.map_nil]; rfl) (bsb1 _ _) rfl (by decide) ?_; intro V6 n6 b6 z6; clear z6; have h6 := h5.keep b6; have s6 := stb_own h5 n6)
        | (refine bs_ls rfl rfl [_] [[i]] (by simp only [List.map_toArray, List.map_cons, List.map_nil]; rfl) (bsl1 _ _ _ _) rfl (by decide) rfl (each1 s6.sl) ?_; intro V7 ls7 b7 k7; have h7 := h6.keep b7; have st7 := stl_new (n := 1) [_] [[i]] h6 b7 k7 rfl (by decide) rfl (eachS1 s6)))
      refine (append_any _ _ _ _ _ _ _ _ h7 hst st7).mono ?_
      rintro e V8 ⟨rfl, v8, h8', m8⟩
      rw [flat1l] at h8' ⊢
      go_upto_region 11 with fail
      have I8 := inv_next I5 [i] rfl (by omega)
      have h8 := h8'
      have bw8 := bw5.trans (h5.below ((mv_below _ b6).trans ((mv_below _ b7).trans m8)))
      have hE : Hid (apN S 1 = if A ≤ i then 5 else if i = F then 6 else 0) := hapN.out.trans hNN
      rw [hE.out]
      clear hE hapN hNN hstep hst m8 h8' st7 ls7 k7 b7 h7 s6 h6 n6 b6 I5 h5 bw5
      by_cases hAi : A ≤ i
      · have hAi' : (A : Int) ≤ (i : Int) := by omega
        rw [if_pos hAi, errV_no (by omega)]
        go_wp2_with (go_at_call 23; refine (num_err 5 (by omega) _).mono ?_; rintro e X ⟨rfl, hX⟩; subst X)
        exact ⟨⟨i + 1, v8, _, by omega, rfl, h8, I8, bw8⟩, by simp only [intOf]; omega⟩
      · have hAi' : ¬ (A : Int) ≤ (i : Int) := by omega
        rw [if_neg hAi]
        by_cases hFi : i = F
        · subst hFi
          rw [if_pos rfl, errV_no (by omega)]
          go_wp2_with (go_at_call 23; refine (num_err 6 (by omega) _).mono ?_; rintro e X ⟨rfl, hX⟩; subst X)
          exact ⟨⟨i + 1, v8, _, by omega, rfl, h8, I8, bw8⟩, by simp only [intOf]; omega⟩
        · have hFi' : ((i : Int) == (F : Int)) = false := by simp; omega
          rw [if_neg hFi, errV_ok rfl]
          go_wp2_with (go_at_call 23; refine (num_nil _).mono ?_; rintro e X ⟨rfl, hX⟩; subst X)
          exact ⟨⟨i + 1, v8, _, by omega, rfl, h8, I8, bw8⟩, by simp only [intOf]; omega⟩

theorem own : ownKnob Try.prog.godebug = none := by kernel_rfl
theorem laidOut : laidOutB Try.prog = true := by kernel_rfl

set_option maxRecDepth 100000 in
theorem lifted (os : Os) (started : os.Started) (H : Type) (enc : TypeId × Value → H) :
    ReturnsInHanded {} Try.checked os 5 .any (Rows.tapeStepsSpec.pre6 enc Try.prog Try.f5 Rows.tapeStepsRow.domain false) (Rows.tapeStepsSpec.post enc Try.prog Try.f5 false true false false) := by
  refine returnsInHanded_of_change (C := Try.checked) own started (by kernel_rfl) Try.func5
    (ChangeSpec.witness6 (enc := enc) (C := Try.checked) false ⟨#[], #[.int .i64 0, .int .i64 0, .int .i64 0], []⟩ 8 (by kernel_rfl) (by kernel_rfl) (by kernel_rfl) (by kernel_rfl)) ?_
  intro W base args ds gs before hval0 hW hcnd _
  have hval : ∀ (j : Nat) t v, Try.f5.params[j]? = some t → args[j]? = some v → Value.okWide Try.prog W .any base t v := hval0
  have hW' := hW
  obtain ⟨p, q, hA0, hV, rfl, hfz, hnd⟩ := hW
  have hA : DataW.TrodAll enc Try.prog W 0 (fun _ => true) true Try.f5.params.toList args.toList ds p := hA0
  rw [Try.params5] at hA hval
  obtain ⟨v0, vs0, d0, ds0, p0, q0, hargs, rfl, rfl, h0, r0⟩ := trodAll_cons hA
  obtain ⟨v1, vs1, d1, ds1, p1, q1, rfl, rfl, rfl, h1, r1⟩ := trodAll_cons r0
  obtain ⟨v2, vs2, d2, ds2, p2, q2, rfl, rfl, rfl, h2, r2⟩ := trodAll_cons r1
  obtain ⟨rfl, rfl, rfl⟩ := trodAll_nil r2
  obtain rfl : args = #[v0, v1, v2] := by cases args; simp_all
  obtain ⟨rfl, rfl⟩ := trodVars_none hV
  have k0 := h0
  have lt0 : ∀ x ∈ p0, x.block < W.heap.size := by obtain ⟨m, hm⟩ := k0; exact DataW.trod_lt m _ _ _ hm
  have k1 := h1
  have lt1 : ∀ x ∈ p1, x.block < W.heap.size := by obtain ⟨m, hm⟩ := k1; exact DataW.trod_lt m _ _ _ hm
  have k2 := h2
  have lt2 : ∀ x ∈ p2, x.block < W.heap.size := by obtain ⟨m, hm⟩ := k2; exact DataW.trod_lt m _ _ _ hm
  obtain ⟨a0, rfl, rfl, rfl, w0⟩ := open_int Try.underlying3 (hval 0 3 v0 rfl rfl) h0
  obtain ⟨a1, rfl, rfl, rfl, w1⟩ := open_int Try.underlying3 (hval 1 3 v1 rfl rfl) h1
  obtain ⟨a2, rfl, rfl, rfl, w2⟩ := open_int Try.underlying3 (hval 2 3 v2 rfl rfl) h2
  clear hA0 hval0
  refine (walk a0 (bounds_i64 w0) a1 (bounds_i64 w1) a2 (bounds_i64 w2) W).mono fun e W' ⟨he, bel⟩ => ?_
  subst he
  exact ⟨_, rfl, _, _, _, [], _, [], hW', trodAll_mk1 (shut_bool Try.underlying4 _), (trodAll_cons_mk (Below.trod laidOut (by kernel_rfl) (of_decide_eq_true (by kernel_rfl)) k0 bel lt0) (trodAll_cons_mk (Below.trod laidOut (by kernel_rfl) (of_decide_eq_true (by kernel_rfl)) k1 bel lt1) (trodAll_cons_mk (Below.trod laidOut (by kernel_rfl) (of_decide_eq_true (by kernel_rfl)) k2 bel lt2) trodAll_mk0))), rfl, bel.frame _, fun h => by cases h⟩

theorem over : Rows.tapeStepsRow.holds Try.pinned (OpenSpec.ofChange Rows.tapeStepsSpec) :=
  OpenClaim.holds_of_wide 5 Try.f5 rfl rfl rfl rfl rfl rfl rfl ⟨rfl, rfl, rfl, rfl, rfl⟩ rfl rfl rfl rfl rfl (by kernel_rfl) Try.func5 (by kernel_rfl)
    (of_decide_eq_true (by kernel_rfl)) (by unfold Func.isWrapper; first | (rw [if_pos (by decide +kernel)]; kernel_rfl) | (rw [if_neg (by decide +kernel)]; exact ⟨rfl, rfl⟩))
    (fun os started H enc _ => lifted os started H enc)

theorem proved : Rows.TapeStepsSaid := over
end Go.Proofs.Ytoofgidmegplbaa.tapeSteps
namespace Go.Proofs.Ytoofgidmegplbaa
theorem tapeSteps_holds : Rows.TapeStepsSaid := tapeSteps.proved
#print axioms tapeSteps_holds
end Go.Proofs.Ytoofgidmegplbaa
