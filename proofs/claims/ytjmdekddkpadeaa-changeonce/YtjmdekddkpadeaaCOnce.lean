/-
  Of swaps of one value, done one behind the other, at most one is done: estuarylaw10.ChangeOnce returns true for every input; no condition.
-/
import Derived.Test.YtjmdekddkpadeaaChL
import Derived.ProofKit
import Derived.OpenShut
import Derived.ChangeOld
import Derived.Below
namespace Go.Proofs.Ytjmdekddkpadeaa.changeOnce
open Go.ChangeShapes Go.WideShapes Go.ChangeAt Go.RowKit Go.Joins
set_option linter.unusedVariables false

theorem eqB0 (w : World) : (binOp .eql 28 (Err 11) .nilIface).run Try.prog w = .ok (.bool false) w := by kernel_rfl
theorem neBB (w : World) : (binOp .neq 28 (Err 11) (Err 11)).run Try.prog w = .ok (.bool false) w := by kernel_rfl
theorem gd_32 {o n : List Int} (h1 : o.length ≤ 32) (h2 : n.length ≤ 32) : gdG ⟨2, o, n⟩ = true := by
  unfold gdG
  show gdC 2 o.length n.length = true
  rw [gdC_2]
  simp [h1, h2]
set_option maxHeartbeats 4000000 in
set_option maxRecDepth 100000 in
theorem once_walk (v : Value) (l : List Int) (w : World) (hv : Is w v l) (q : Option Addr) (m cap g off : Nat) (os : List (Value × List Int)) (hs : NlRow w q m cap g off os) :
    Calls Try.prog 4 #[v, .slice q m cap] w fun e w' => e = .returned (.bool true) ∧ Below w.heap.size w w' := by
  obtain ⟨qv, cv, e⟩ := hv.form
  subst e
  obtain ⟨n, hn⟩ : ∃ n, l.length = n := ⟨_, rfl⟩
  rw [hn] at hv ⊢
  go_enter Try.func4, Try.ntmps4
  go_upto_region 3 with (go_at_call 8; refine (alive10_any _).mono ?_; rintro e W1 ⟨rfl, b1⟩)
  by_cases c1 : n ≤ 32
  rotate_left
  · have c2 : ¬ (n : Int) ≤ 32 := by omega
    go_wp2_with fail
    go_ret
    exact ⟨rfl, b1⟩
  by_cases c2 : m ≤ 100
  rotate_left
  · have c3 : ¬ (m : Int) ≤ 100 := by omega
    have c4 : (n : Int) ≤ 32 := by omega
    go_wp2_with fail
    go_ret
    exact ⟨rfl, b1⟩
  have c3 : (m : Int) ≤ 100 := by omega
  have c4 : (n : Int) ≤ 32 := by omega
  go_upto_region 5 with fail
  clear c3 c4
  go_wp2_with fail
  have hv1 := hv.keep b1
  go_loopw [5, 6, 24] (fun x d i wr => ∃ (j D : Nat) (qx : Option Addr) (nx cx : Nat) (val : List Int), j ≤ m ∧ i = .int .i64 (j : Int) ∧ d = .int .i64 (D : Int) ∧ x = .slice qx nx cx ∧ Is wr (.slice qx nx cx) val ∧ nx ≤ 32 ∧ ((D = 0 ∧ val = l) ∨ (D = 1 ∧ val ≠ l)) ∧ Below w.heap.size w wr) (fun x d i _ => m - (intOf i).toNat)
  case atStart => exact ⟨0, 0, qv, n, cv, l, by omega, rfl, rfl, rfl, hv1, c1, .inl ⟨rfl, rfl⟩, b1⟩
  case round =>
    obtain ⟨j, D, qx, nx, cx, val, hj, rfl, rfl, rfl, hx, hnx, hD, hb⟩ := hrel
    clear b1 hv1
    by_cases cj : j = m
    · subst cj
      clear hs hD
      go_wp2_with fail
      go_ret
      exact ⟨rfl, hb⟩
    · have hjm : j < m := by omega
      have hji : (j : Int) < (m : Int) := by omega
      obtain ⟨⟨vy, y⟩, hy⟩ : ∃ y, os[j]? = some y := ⟨os[j]'(by have := hs.len; omega), List.getElem?_eq_getElem _⟩
      obtain ⟨hcell, hyz⟩ := hs.row j _ hy
      obtain rfl := hs.ptr (by omega)
      have hg := hs.lt (by omega)
      have hfit := hs.fits
      dsimp only at hcell hyz
      have d := keep_cell hb hcell hg
      have hy1 := hyz.1.keep hb
      have hvb := hv.keep hb
      obtain ⟨qy, cy, e⟩ := hy1.form
      subst e
      obtain ⟨ny, hny⟩ : ∃ n, y.length = n := ⟨_, rfl⟩
      rw [hny] at hy1 d
      clear hs hcell hyz hy hg
      by_cases e1 : ny ≤ 32
      rotate_left
      · have e2 : ¬ (ny : Int) ≤ 32 := by omega
        have e3 : (32 : Int) < (ny : Int) := by omega
        go_wp2_with fail
        exact ⟨⟨j + 1, D, qx, nx, cx, val, by omega, rfl, rfl, rfl, hx, hnx, hD, hb⟩, by simp only [intOf]; omega⟩
      have e2 : (ny : Int) ≤ 32 := by omega
      have e3 : ¬ (32 : Int) < (ny : Int) := by omega
      go_wp2_with fail
      refine (gsame_any _ _ y l _ hy1 hvb).mono ?_
      rintro e V1 ⟨rfl, v1⟩
      have hb1 := ab_trans hb v1
      by_cases e4 : y = l
      · rw [decide_eq_true e4]
        have HX : Hid (Is V1 (.slice qx nx cx) val) := hx.keep v1
        clear e4
        go_wp2_with fail
        exact ⟨⟨j + 1, D, qx, nx, cx, val, by omega, rfl, rfl, rfl, HX.out, hnx, hD, hb1⟩, by simp only [intOf]; omega⟩
      · rw [decide_eq_false e4]
        have HY : Hid (y ≠ l) := e4
        clear e4
        go_wp2_with fail
        refine (gswap_any _ _ l y _ (hvb.keep v1) (hy1.keep v1) (by omega) (by omega)).mono ?_
        rintro e V2 ⟨q1, c1', q2, c2', rfl, hO1, hO2, v2⟩
        rw [hn] at hO1 ⊢
        rw [hny] at hO2 ⊢
        have v12 := ab_trans v1 v2
        have hlx := hx.len
        rcases hD with ⟨rfl, hval⟩ | ⟨rfl, hval⟩
        · have HN : Hid (doN ⟨2, l, y⟩ val = 0 ∧ doL ⟨2, l, y⟩ val = y) := do_swap (gd_32 (by omega) (by omega)) rfl hval
          clear hval
          go_wp2_with fail
          refine (gdo_at ⟨2, l, y⟩ _ _ _ val y 0 _ hO1.is hO2.is (hx.keep v12) (by omega) HN.out).mono ?_
          rintro e V3 ⟨q3, c3, rfl, hO3, v3⟩
          rw [hny] at hO3 ⊢
          rw [errV_ok rfl]
          have E1 := geqN0
          go_wp2_with fail
          refine (gints_any _ _ y y _ hO3.is (hy1.keep (ab_trans v12 v3)) (by omega) (by omega)).mono ?_
          rintro e V4 ⟨rfl, v4⟩
          rw [decide_eq_true (rfl : y = y)]
          have HX : Hid (Is V4 (.slice q3 ny c3) y) := hO3.is.keep v4
          have hb4 := ab_trans hb (ab_trans v12 (ab_trans v3 v4))
          go_wp2_with fail
          exact ⟨⟨j + 1, 1, q3, ny, c3, y, by omega, rfl, rfl, rfl, HX.out, e1, .inr ⟨rfl, HY.out⟩, hb4⟩, by simp only [intOf]; omega⟩
        · have HN : Hid (doN ⟨2, l, y⟩ val = 11 ∧ doL ⟨2, l, y⟩ val = val) := do_stale (gd_32 (by omega) (by omega)) rfl hval
          have HV : Hid (val ≠ l) := hval
          clear hval
          obtain ⟨nv, hnv⟩ : ∃ k, val.length = k := ⟨_, rfl⟩
          go_wp2_with fail
          refine (gdo_at ⟨2, l, y⟩ _ _ _ val val 11 _ hO1.is hO2.is (hx.keep v12) (by omega) HN.out).mono ?_
          rintro e V3 ⟨q3, c3, rfl, hO3, v3⟩
          rw [hnv] at hO3 ⊢
          rw [errV_no (by decide)]
          have E1 := eqB0
          have E2 := neBB
          go_wp2_with fail
          refine (gints_any _ _ val val _ hO3.is (hx.keep (ab_trans v12 v3)) (by omega) (by omega)).mono ?_
          rintro e V4 ⟨rfl, v4⟩
          rw [decide_eq_true (rfl : val = val)]
          have HX : Hid (Is V4 (.slice qx nx cx) val) := hx.keep (ab_trans v12 (ab_trans v3 v4))
          have hb4 := ab_trans hb (ab_trans v12 (ab_trans v3 v4))
          go_wp2_with fail
          exact ⟨⟨j + 1, 1, qx, nx, cx, val, by omega, rfl, rfl, rfl, HX.out, hnx, .inr ⟨rfl, HV.out⟩, hb4⟩, by simp only [intOf]; omega⟩
theorem walk {W : World} (v : Value) (l : List Int) (hv : IsZ W v l) (q : Option Addr) (m cap g off : Nat) (os : List (Value × List Int)) (hs : NlRow W q m cap g off os) :
    Calls Try.prog 4 #[v, .slice q m cap] W fun e w' => e = .returned (.bool true) ∧ Below W.heap.size W w' :=
  once_walk v l W hv.1 q m cap g off os hs
theorem own : ownKnob Try.prog.godebug = none := by kernel_rfl
theorem laidOut : laidOutB Try.prog = true := by kernel_rfl

set_option maxRecDepth 100000 in
theorem lifted (os : Os) (started : os.Started) (H : Type) (enc : TypeId × Value → H) :
    ReturnsInHanded {} Try.checked os 4 .any (Rows.changeOnceSpec.pre6 enc Try.prog Try.f4 Rows.changeOnceRow.domain false) (Rows.changeOnceSpec.post enc Try.prog Try.f4 false true false false) := by
  refine returnsInHanded_of_change_sized (C := Try.checked) own started (by kernel_rfl) Try.func4
    (ChangeSpec.witness6 (enc := enc) (C := Try.checked) false ⟨#[], #[.slice none 0 0, .slice none 0 0], []⟩ 8 (by kernel_rfl) (by kernel_rfl) (by kernel_rfl) (by kernel_rfl)) ?_
  intro W base args ds gs before hval0 hW hcnd hsz _
  have hval : ∀ (j : Nat) t v, Try.f4.params[j]? = some t → args[j]? = some v → Value.okWide Try.prog W .any base t v := hval0
  have hW' := hW
  obtain ⟨p, q, hA0, hV, rfl, hfz, hnd⟩ := hW
  have hA : DataW.TrodAll enc Try.prog W 0 (fun _ => true) true Try.f4.params.toList args.toList ds p := hA0
  rw [Try.params4] at hA hval
  obtain ⟨v0, vs0, d0, ds0, p0, q0, hargs, rfl, rfl, h0, r0⟩ := trodAll_cons hA
  obtain ⟨v1, vs1, d1, ds1, p1, q1, rfl, rfl, rfl, h1, r1⟩ := trodAll_cons r0
  obtain ⟨rfl, rfl, rfl⟩ := trodAll_nil r1
  obtain rfl : args = #[v0, v1] := by cases args; simp_all
  obtain ⟨rfl, rfl⟩ := trodVars_none hV
  have k0 := h0
  have lt0 : ∀ x ∈ p0, x.block < W.heap.size := by obtain ⟨m, hm⟩ := k0; exact DataW.trod_lt m _ _ _ hm
  have k1 := h1
  have lt1 : ∀ x ∈ p1, x.block < W.heap.size := by obtain ⟨m, hm⟩ := k1; exact DataW.trod_lt m _ _ _ hm
  obtain ⟨l0_, Z0_⟩ := open_numsZ (hval 0 22 v0 rfl rfl) h0 (fun n hn => by simpa using List.all_eq_true.1 hsz n (DataW.weights_mem_each (j := 0) (t := 22) (by kernel_rfl) rfl n hn))
  obtain ⟨sq1_, sn1_, sk1_, sg1_, so1_, os1_, rfl, Z1_⟩ := open_nlists (hval 1 38 v1 rfl rfl) h1 (fun n hn => by simpa using List.all_eq_true.1 hsz n (DataW.weights_mem_each (j := 1) (t := 38) (by kernel_rfl) rfl n hn))
  clear hA0 hval0
  refine (walk v0 l0_ Z0_ sq1_ sn1_ sk1_ sg1_ so1_ os1_ Z1_).mono fun e W' ⟨he, bel⟩ => ?_
  subst he
  exact ⟨_, rfl, _, _, _, [], _, [], hW', trodAll_mk1 (shut_bool Try.underlying4 _), (trodAll_cons_mk (Below.trod laidOut (by kernel_rfl) (of_decide_eq_true (by kernel_rfl)) k0 bel lt0) (trodAll_cons_mk (Below.trod laidOut (by kernel_rfl) (of_decide_eq_true (by kernel_rfl)) k1 bel lt1) trodAll_mk0)), rfl, bel.frame _, fun h => by cases h⟩

theorem over : Rows.changeOnceRow.holds Try.pinned (OpenSpec.ofChange Rows.changeOnceSpec) :=
  OpenClaim.holds_of_wide 4 Try.f4 rfl rfl rfl rfl rfl rfl rfl ⟨rfl, rfl, rfl, rfl, rfl⟩ rfl rfl rfl rfl rfl (by kernel_rfl) Try.func4 (by kernel_rfl)
    (of_decide_eq_true (by kernel_rfl)) (by unfold Func.isWrapper; first | (rw [if_pos (by decide +kernel)]; kernel_rfl) | (rw [if_neg (by decide +kernel)]; exact ⟨rfl, rfl⟩))
    (fun os started H enc _ => lifted os started H enc)

theorem proved : Rows.ChangeOnceSaid := over
end Go.Proofs.Ytjmdekddkpadeaa.changeOnce
namespace Go.Proofs.Ytjmdekddkpadeaa
theorem changeOnce_holds : Rows.ChangeOnceSaid := changeOnce.proved
#print axioms changeOnce_holds
end Go.Proofs.Ytjmdekddkpadeaa
