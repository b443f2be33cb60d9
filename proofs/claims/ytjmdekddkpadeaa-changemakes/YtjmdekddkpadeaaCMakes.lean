/-
  Read and Swap are in form, and their own memory; Same is the document's: estuarylaw10.ChangeMakes returns true for every input; no condition.
-/
import Derived.Test.YtjmdekddkpadeaaChD
import Derived.Test.YtjmdekddkpadeaaFrL
import Derived.ProofKit
import Derived.OpenShut
import Derived.ChangeOld
import Derived.Below
namespace Go.Proofs.Ytjmdekddkpadeaa.changeMakes
open Go.ChangeShapes Go.WideShapes Go.ChangeAt Go.RowKit Go.Joins
set_option linter.unusedVariables false

set_option maxHeartbeats 2000000 in
set_option maxRecDepth 100000 in
theorem makes_walk (v u : Value) (l m : List Int) (w : World) (hv : Is w v l) (hu : Is w u m) :
    Calls Try.prog 6 #[v, u] w fun e w' => e = .returned (.bool true) ∧ Below w.heap.size w w' := by
  obtain ⟨q, c, e⟩ := hv.form
  subst e
  obtain ⟨qu, cu, e⟩ := hu.form
  subst e
  obtain ⟨n, hn⟩ : ∃ n, l.length = n := ⟨_, rfl⟩
  obtain ⟨k, hk⟩ : ∃ k, m.length = k := ⟨_, rfl⟩
  rw [hn] at hv ⊢
  rw [hk] at hu ⊢
  go_enter Try.func6, Try.ntmps6
  go_upto_region 3 with (go_at_call 8; refine (alive10_any _).mono ?_; rintro e W1 ⟨rfl, b1⟩)
  by_cases c1 : n ≤ 1000
  rotate_left
  · have c2 : ¬ (n : Int) ≤ 1000 := by omega
    go_wp2_with fail
    go_ret
    exact ⟨rfl, b1⟩
  by_cases c2 : k ≤ 1000
  rotate_left
  · have c3 : ¬ (k : Int) ≤ 1000 := by omega
    have c4 : (n : Int) ≤ 1000 := by omega
    go_wp2_with fail
    go_ret
    exact ⟨rfl, b1⟩
  have c3 : (k : Int) ≤ 1000 := by omega
  have c4 : (n : Int) ≤ 1000 := by omega
  go_upto_region 5 with fail
  clear c3 c4
  go_wp2_with fail
  refine (marked_any _ l _ (hv.keep b1) (by omega)).mono ?_
  rintro e W2 ⟨va, rfl, hC2, b2⟩
  go_wp2_with fail
  refine (marked_any _ m _ (hu.keep (ab_trans b1 b2)) (by omega)).mono ?_
  rintro e W3 ⟨vb, rfl, hD3, b3⟩
  have hC3 := hC2.keep b3
  have HS : Hid (Sep va vb) := sep_lt (fun k hk => (hC2.lt k hk).2) (fun k hk => (hD3.lt k hk).1)
  go_upto_region 6 with fail
  go_wp2_with fail
  refine (gswap_any _ _ l m _ hC3.is hD3.is (by omega) (by omega)).mono ?_
  rintro e W4 ⟨q1, c1', q2, c2', rfl, hO1, hO2, b4⟩
  rw [hn] at hO1 ⊢
  rw [hk] at hO2 ⊢
  go_upto_region 7 with fail
  obtain ⟨V, hE, hX, b5⟩ := blk1 W4 (cgC 2 (.slice q1 n c1') (.slice q2 k c2')) 24
  rw [hE]
  have b45 := ab_trans b4 b5
  have PA := hC3.keep b45
  have PB := hD3.keep b45
  have P1 := hO1.keep b5
  have P2 := hO2.keep b5
  have HS1 : Hid (Sep va (.slice q1 n c1')) := sep_lt (fun k hk => (hC3.lt k hk).2) (fun k hk => (hO1.lt k hk).1)
  have HS2 : Hid (Sep va (.slice q2 k c2')) := sep_lt (fun k hk => (hC3.lt k hk).2) (fun k hk => (hO2.lt k hk).1)
  have HS3 : Hid (Sep vb (.slice q1 n c1')) := sep_lt (fun k hk => (hD3.lt k hk).2) (fun k hk => (hO1.lt k hk).1)
  have HS4 : Hid (Sep vb (.slice q2 k c2')) := sep_lt (fun k hk => (hD3.lt k hk).2) (fun k hk => (hO2.lt k hk).1)
  have hw5 := ab_trans b1 (ab_trans b2 (ab_trans b3 b45))
  have z1 : Hid (w.heap.size ≤ W1.heap.size) := b1.size
  have z2 : Hid (W1.heap.size ≤ W2.heap.size) := b2.size
  clear hE hC2 hC3 hD3 hO1 hO2 b1 b2 b3 b4 b5 b45
  generalize W4.heap.size = gx at *
  generalize W1.heap.size = s1 at *
  generalize W2.heap.size = s2 at *
  generalize W3.heap.size = s3 at *
  obtain ⟨ga, ca, rfl, RA⟩ := PA.row hn
  obtain ⟨gb, cb, rfl, RB⟩ := PB.row hk
  have LA := PA.lt ga rfl
  have LB := PB.lt gb rfl
  have HAX : Hid (ga ≠ gx) := fun e => by have := blk_own RA hX (by decide); rw [e] at this; exact this rfl
  have HBX : Hid (gb ≠ gx) := fun e => by have := blk_own RB hX (by decide); rw [e] at this; exact this rfl
  clear PA
  go_wp2_with fail
  go_loopw [30] (fun i wr => ∃ (j : Nat) (ys : List Int), j ≤ n ∧ i = .int .i64 (j : Int) ∧ wr.ownsRow s1 3 1 (.slice (some ⟨ga, 0, none⟩) (n + 1) ca) (n + 1) (ints ys) ∧ Chg ga V wr) (fun i _ => n - (intOf i).toNat)
  case atStart => exact ⟨0, _, by omega, rfl, RA, Chg.refl _ _⟩
  case round =>
    obtain ⟨j, ys, hj, rfl, h, hk1⟩ := hrel
    by_cases cj : j = n
    · subst cj
      have o1 : Onl (.slice (some ⟨ga, 0, none⟩) j ca) V wr := ⟨fun g hg => by cases hg; exact hk1, fun h => by cases h⟩
      have X1 := o1.blk hX (fun h => HAX.out (by cases h; rfl))
      have QB := o1.cn PB HS.out
      have Q1 := o1.io P1 HS1.out
      have Q2 := o1.io P2 HS2.out
      obtain ⟨gb', cb', eb, RB1⟩ := QB.row hk
      cases eb
      have hw6 := hw5.trans (hk1.below (n := w.heap.size) (by have := z1.out; omega))
      clear h hk1 hX RA RB P1 P2 HS HS1 HS2 hw5 o1 PB
      generalize wr = Z at *
      go_wp2_with fail
      go_loopw [39] (fun i wr => ∃ (i' : Nat) (ys : List Int), i' ≤ k ∧ i = .int .i64 (i' : Int) ∧ wr.ownsRow s2 3 1 (.slice (some ⟨gb, 0, none⟩) (k + 1) cb) (k + 1) (ints ys) ∧ Chg gb Z wr) (fun i _ => k - (intOf i).toNat)
      case atStart => exact ⟨0, _, by omega, rfl, RB1, Chg.refl _ _⟩
      case round =>
        obtain ⟨i', ys, hi, rfl, h, hk2⟩ := hrel
        by_cases ci : i' = k
        · subst ci
          have o2 : Onl (.slice (some ⟨gb, 0, none⟩) i' cb) Z wr := ⟨fun g hg => by cases hg; exact hk2, fun h => by cases h⟩
          have X2 := o2.blk X1 (fun h => HBX.out (by cases h; rfl))
          have T1 := (o2.io Q1 HS3.out).is
          have T2 := (o2.io Q2 HS4.out).is
          have hw7 := hw6.trans (hk2.below (n := w.heap.size) (by have := z1.out; have := z2.out; omega))
          have I1 := hv.keep hw7
          have I2 := hu.keep hw7
          clear h hk2 X1 Q1 Q2 HS3 HS4 o2 hw6 QB RB1 hv hu HAX HBX
          generalize wr = Y at *
          obtain ⟨d0, d1, d2⟩ := cellsG X2
          have hbv := Below.refl Y.heap.size Y
          rcases (show (((j : Int) ≤ 32 ∧ (i' : Int) ≤ 32) ∧ gdC 2 j i' = true) ∨ ((¬ (j : Int) ≤ 32) ∧ gdC 2 j i' = false) ∨ (((j : Int) ≤ 32 ∧ ¬ (i' : Int) ≤ 32) ∧ gdC 2 j i' = false) by
            by_cases a1 : j ≤ 32
            · by_cases a2 : i' ≤ 32
              · exact .inl ⟨⟨by omega, by omega⟩, by rw [gdC_2]; simp [a1, a2]⟩
              · exact .inr (.inr ⟨⟨by omega, by omega⟩, by rw [gdC_2]; simp [a2]⟩)
            · exact .inr (.inl ⟨by omega, by rw [gdC_2]; simp [a1]⟩)) with ⟨⟨x1, x2⟩, hg⟩ | ⟨x1, hg⟩ | ⟨⟨x1, x2⟩, hg⟩
          all_goals
            have HE : Hid (∀ w, (binOp .eql 28 (errV (ckN 2 j i')) .nilIface).run Try.prog w = .ok (.bool (gdC 2 j i')) w) := eq_ck 2 j i'
            rw [hg] at HE
            clear hg
            go_upto_region 18 with fail
            go_wp2_with fail
            refine (gints_any _ _ l l _ T1 I1 (by omega) (by omega)).mono ?_
            rintro e Z1 ⟨rfl, bz1⟩
            rw [decide_eq_true (rfl : l = l)]
            have hbv := ab_trans hbv bz1
            go_wp2_with fail
            refine (gints_any _ _ m m _ (T2.keep hbv) (I2.keep hbv) (by omega) (by omega)).mono ?_
            rintro e Z2 ⟨rfl, bz2⟩
            rw [decide_eq_true (rfl : m = m)]
            have hbv := ab_trans hbv bz2
            go_wp2_with fail
            refine (gcheck_any 2 q1 j c1' q2 i' c2' _).mono ?_
            rintro e Z3 ⟨rfl, bz3⟩
            have hbv := ab_trans hbv bz3
            have HE1 := HE.out
            have HE3 := fun x => eqg_err (ckN 2 j i') x
            go_wp2_with fail
            refine (gread_any _).mono ?_
            rintro e Z4 ⟨rfl, bz4⟩
            have hbv := ab_trans hbv bz4
            clear HE1 HE3
            go_wp2_with fail
            refine (gcheck_any 1 none 0 0 none 0 0 _).mono ?_
            rintro e Z5 ⟨rfl, bz5⟩
            have hbv := ab_trans hbv bz5
            rw [show errV (ckN 1 0 0) = .nilIface from rfl]
            have HE2 := geqN0
            go_wp2_with fail
            refine (gsame_any _ _ l m _ (I1.keep hbv) (I2.keep hbv)).mono ?_
            rintro e Z6 ⟨rfl, bz6⟩
            have hbv := ab_trans hbv bz6
            go_wp2_with fail
            refine (gsameR_any _ _ l m _ (I1.keep hbv) (I2.keep hbv)).mono ?_
            rintro e Z7 ⟨rfl, bz7⟩
            have hbv := ab_trans hbv bz7
            have hbb := beq_b (decide (l = m))
            go_wp2_with fail
            go_ret
            exact ⟨rfl, ab_trans hw7 hbv⟩
        · clear X1 Q1 Q2 HS3 HS4 hw6 QB RB1 hv hu HAX HBX z1 z2
          have hjn : i' < k := by omega
          have hji : (i' : Int) < (k : Int) := by omega
          have hys := owns_len h
          have d := h.cellAt i' (by omega)
          have fz := h.frozenAt i'
          obtain ⟨z, hzz⟩ : ∃ z, ys[i']? = some z := ⟨ys[i'], List.getElem?_eq_getElem (by omega)⟩
          have hu9 : (ints ys)[i']? = some (.int .i64 z) := by rw [ints_at, hzz]; rfl
          rw [hu9] at d
          have hst := (h.stored i' (.int .i64 (-1))).1
          rw [show (ints ys).set i' (.int .i64 (-1)) = ints (ys.set i' (-1)) from by simp [ints, List.map_set]] at hst
          have HK : Hid (Chg gb Z wr) := hk2
          go_wp2_with fail
          exact ⟨⟨i' + 1, _, by omega, rfl, hst, HK.out.trans (chg_set _ _ _ _)⟩, by simp only [intOf]; omega⟩
    · clear hX RA RB P1 P2 HS HS1 HS2 HS3 HS4 hw5 PB hv hu HAX HBX z1 z2
      have hjn : j < n := by omega
      have hji : (j : Int) < (n : Int) := by omega
      have hys := owns_len h
      have d := h.cellAt j (by omega)
      have fz := h.frozenAt j
      obtain ⟨z, hzz⟩ : ∃ z, ys[j]? = some z := ⟨ys[j], List.getElem?_eq_getElem (by omega)⟩
      have hu9 : (ints ys)[j]? = some (.int .i64 z) := by rw [ints_at, hzz]; rfl
      rw [hu9] at d
      go_wp2_with fail
      have hst := (h.stored j (.int .i64 (-1))).1
      rw [show (ints ys).set j (.int .i64 (-1)) = ints (ys.set j (-1)) from by simp [ints, List.map_set]] at hst
      exact ⟨⟨j + 1, _, by omega, rfl, hst, hk1.trans (chg_set _ _ _ _)⟩, by simp only [intOf]; omega⟩
theorem walk {W : World} (v : Value) (l : List Int) (hv : Is W v l) (_ : In64 l) (u : Value) (m : List Int) (hu : Is W u m) (_ : In64 m) :
    Calls Try.prog 6 #[v, u] W fun e w' => e = .returned (.bool true) ∧ Below W.heap.size W w' :=
  makes_walk v u l m W hv hu
theorem own : ownKnob Try.prog.godebug = none := by kernel_rfl
theorem laidOut : laidOutB Try.prog = true := by kernel_rfl

set_option maxRecDepth 100000 in
theorem lifted (os : Os) (started : os.Started) (H : Type) (enc : TypeId × Value → H) :
    ReturnsInHanded {} Try.checked os 6 .any (Rows.changeMakesSpec.pre6 enc Try.prog Try.f6 Rows.changeMakesRow.domain false) (Rows.changeMakesSpec.post enc Try.prog Try.f6 false true false false) := by
  refine returnsInHanded_of_change (C := Try.checked) own started (by kernel_rfl) Try.func6
    (ChangeSpec.witness6 (enc := enc) (C := Try.checked) false ⟨#[], #[.slice none 0 0, .slice none 0 0], []⟩ 8 (by kernel_rfl) (by kernel_rfl) (by kernel_rfl) (by kernel_rfl)) ?_
  intro W base args ds gs before hval0 hW hcnd _
  have hval : ∀ (j : Nat) t v, Try.f6.params[j]? = some t → args[j]? = some v → Value.okWide Try.prog W .any base t v := hval0
  have hW' := hW
  obtain ⟨p, q, hA0, hV, rfl, hfz, hnd⟩ := hW
  have hA : DataW.TrodAll enc Try.prog W 0 (fun _ => true) true Try.f6.params.toList args.toList ds p := hA0
  rw [Try.params6] at hA hval
  obtain ⟨v0, vs0, d0, ds0, p0, q0, hargs, rfl, rfl, h0, r0⟩ := trodAll_cons hA
  obtain ⟨v1, vs1, d1, ds1, p1, q1, rfl, rfl, rfl, h1, r1⟩ := trodAll_cons r0
  obtain ⟨rfl, rfl, rfl⟩ := trodAll_nil r1
  obtain rfl : args = #[v0, v1] := by cases args; simp_all
  obtain ⟨rfl, rfl⟩ := trodVars_none hV
  have k0 := h0
  have lt0 : ∀ x ∈ p0, x.block < W.heap.size := by obtain ⟨m, hm⟩ := k0; exact DataW.trod_lt m _ _ _ hm
  have k1 := h1
  have lt1 : ∀ x ∈ p1, x.block < W.heap.size := by obtain ⟨m, hm⟩ := k1; exact DataW.trod_lt m _ _ _ hm
  obtain ⟨l0_, S0_, B0_⟩ := open_nums (hval 0 22 v0 rfl rfl) h0
  obtain ⟨l1_, S1_, B1_⟩ := open_nums (hval 1 22 v1 rfl rfl) h1
  clear hA0 hval0
  refine (walk v0 l0_ S0_ B0_ v1 l1_ S1_ B1_).mono fun e W' ⟨he, bel⟩ => ?_
  subst he
  exact ⟨_, rfl, _, _, _, [], _, [], hW', trodAll_mk1 (shut_bool Try.underlying4 _), (trodAll_cons_mk (Below.trod laidOut (by kernel_rfl) (of_decide_eq_true (by kernel_rfl)) k0 bel lt0) (trodAll_cons_mk (Below.trod laidOut (by kernel_rfl) (of_decide_eq_true (by kernel_rfl)) k1 bel lt1) trodAll_mk0)), rfl, bel.frame _, fun h => by cases h⟩

theorem over : Rows.changeMakesRow.holds Try.pinned (OpenSpec.ofChange Rows.changeMakesSpec) :=
  OpenClaim.holds_of_wide 6 Try.f6 rfl rfl rfl rfl rfl rfl rfl ⟨rfl, rfl, rfl, rfl, rfl⟩ rfl rfl rfl rfl rfl (by kernel_rfl) Try.func6 (by kernel_rfl)
    (of_decide_eq_true (by kernel_rfl)) (by unfold Func.isWrapper; first | (rw [if_pos (by decide +kernel)]; kernel_rfl) | (rw [if_neg (by decide +kernel)]; exact ⟨rfl, rfl⟩))
    (fun os started H enc _ => lifted os started H enc)

theorem proved : Rows.ChangeMakesSaid := over
end Go.Proofs.Ytjmdekddkpadeaa.changeMakes
namespace Go.Proofs.Ytjmdekddkpadeaa
theorem changeMakes_holds : Rows.ChangeMakesSaid := changeMakes.proved
#print axioms changeMakes_holds
end Go.Proofs.Ytjmdekddkpadeaa
