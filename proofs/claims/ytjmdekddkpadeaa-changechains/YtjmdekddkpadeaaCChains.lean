/-
  Of changes done one behind the other each swap that isn't stale puts its New there, and all others leave the value: estuarylaw10.ChangeChains returns true for every input; no condition.
-/
import Derived.Test.YtjmdekddkpadeaaChL
import Derived.ProofKit
import Derived.OpenShut
import Derived.ChangeOld
import Derived.Below
namespace Go.Proofs.Ytjmdekddkpadeaa.changeChains
open Go.ChangeShapes Go.WideShapes Go.ChangeAt Go.RowKit Go.Joins
set_option linter.unusedVariables false

theorem eqB0 (w : World) : (binOp .eql 28 (Err 11) .nilIface).run Try.prog w = .ok (.bool false) w := by kernel_rfl
theorem eq20 (w : World) : (binOp .eql 28 (Err 2) .nilIface).run Try.prog w = .ok (.bool false) w := by kernel_rfl
theorem eq2B (w : World) : (binOp .eql 28 (Err 2) (Err 11)).run Try.prog w = .ok (.bool false) w := by kernel_rfl
theorem eq0B (w : World) : (binOp .eql 28 .nilIface (Err 11)).run Try.prog w = .ok (.bool false) w := by kernel_rfl
set_option maxHeartbeats 4000000 in
set_option maxRecDepth 100000 in
theorem chains_walk (q : Option Addr) (m cap g off : Nat) (os : List CgD) (w : World) (hs : CgRow w q m cap g off os) (v : Value) (l : List Int) (hv : Is w v l) :
    Calls Try.prog 7 #[.slice q m cap, v] w fun e w' => e = .returned (.bool true) ∧ Below w.heap.size w w' := by
  obtain ⟨qv, cv, e⟩ := hv.form
  subst e
  obtain ⟨n, hn⟩ : ∃ n, l.length = n := ⟨_, rfl⟩
  rw [hn] at hv ⊢
  go_enter Try.func7, Try.ntmps7
  go_upto_region 3 with (go_at_call 8; refine (alive10_any _).mono ?_; rintro e W1 ⟨rfl, b1⟩)
  by_cases c1 : m ≤ 100
  rotate_left
  · have c2 : ¬ (m : Int) ≤ 100 := by omega
    go_wp2_with fail
    go_ret
    exact ⟨rfl, b1⟩
  by_cases c2 : n ≤ 100
  rotate_left
  · have c3 : ¬ (n : Int) ≤ 100 := by omega
    have c4 : (m : Int) ≤ 100 := by omega
    go_wp2_with fail
    go_ret
    exact ⟨rfl, b1⟩
  have c3 : (m : Int) ≤ 100 := by omega
  have c4 : (n : Int) ≤ 100 := by omega
  go_upto_region 5 with fail
  clear c3 c4
  go_wp2_with fail
  have hv1 := hv.keep b1
  go_loopw [1, 21] (fun x i wr => ∃ (j : Nat) (qx : Option Addr) (nx cx : Nat) (val : List Int), j ≤ m ∧ i = .int .i64 (j : Int) ∧ x = .slice qx nx cx ∧ Is wr (.slice qx nx cx) val ∧ nx ≤ 100 ∧ Below w.heap.size w wr) (fun x i _ => m - (intOf i).toNat)
  case atStart => exact ⟨0, qv, n, cv, l, by omega, rfl, rfl, hv1, c2, b1⟩
  case round =>
    obtain ⟨j, qx, nx, cx, val, hj, rfl, rfl, hx, hnx, hb⟩ := hrel
    clear b1 hv1
    by_cases cj : j = m
    · subst cj
      clear hs
      go_wp2_with fail
      go_ret
      exact ⟨rfl, hb⟩
    · have hjm : j < m := by omega
      have hji : (j : Int) < (m : Int) := by omega
      obtain ⟨⟨kk, vo, o, vn, nn⟩, hy⟩ : ∃ y, os[j]? = some y := ⟨os[j]'(by have := hs.len; omega), List.getElem?_eq_getElem _⟩
      have hg := hs.lt (by omega)
      obtain ⟨d0, d1, d2, ⟨so, -⟩, ⟨sn, -⟩⟩ := (hs.row j _ hy).keep hg hb
      obtain rfl := hs.ptr (by omega)
      have hfit := hs.fits
      dsimp only at d0 d1 d2 so sn
      obtain ⟨q1, c1', e⟩ := so.form
      subst e
      obtain ⟨q2, c2', e⟩ := sn.form
      subst e
      obtain ⟨n1, hn1⟩ : ∃ n, o.length = n := ⟨_, rfl⟩
      obtain ⟨n2, hn2⟩ : ∃ n, nn.length = n := ⟨_, rfl⟩
      rw [hn1] at so d1
      rw [hn2] at sn d2
      clear hs hy hg
      go_upto_region 8 with fail
      obtain ⟨V, hE, hX, hbV⟩ := blk1 wr (cgC kk (.slice q1 n1 c1') (.slice q2 n2 c2')) 24
      rw [hE]
      obtain ⟨y0, y1, y2⟩ := cellsG hX
      have hbv := Below.refl V.heap.size V
      have hbw := ab_trans hb hbV
      have hxV := hx.keep hbV
      have soV := so.keep hbV
      have snV := sn.keep hbV
      clear hE hX d0 d1 d2 hx so sn
      by_cases e1 : n1 ≤ 100
      rotate_left
      · have e2 : ¬ (n1 : Int) ≤ 100 := by omega
        go_wp2_with fail
        go_ret
        exact ⟨rfl, hbw⟩
      by_cases e3 : n2 ≤ 100
      rotate_left
      · have e2 : (n1 : Int) ≤ 100 := by omega
        have e4 : ¬ (n2 : Int) ≤ 100 := by omega
        go_wp2_with fail
        go_ret
        exact ⟨rfl, hbw⟩
      have e2 : (n1 : Int) ≤ 100 := by omega
      have e4 : (n2 : Int) ≤ 100 := by omega
      have hlx := hxV.len
      go_upto_region 10 with fail
      clear e2 e4
      cases h1 : gdG ⟨kk, o, nn⟩
      · have HN : Hid (doN ⟨kk, o, nn⟩ val = 2 ∧ doL ⟨kk, o, nn⟩ val = val) := do_form h1
        clear h1
        obtain ⟨nv, hnv⟩ : ∃ k, val.length = k := ⟨_, rfl⟩
        go_wp2_with fail
        refine (gdo_at ⟨kk, o, nn⟩ _ _ _ val val 2 _ soV snV hxV (by omega) HN.out).mono ?_
        rintro e V3 ⟨q3, c3, rfl, hO3, v3⟩
        rw [hnv] at hO3 ⊢
        rw [errV_no (by decide)]
        have hbv := ab_trans hbv v3
        have E1 := eq20
        have E2 := eq2B
        go_wp2_with fail
        refine (gints_any _ _ val val _ hO3.is (hxV.keep hbv) (by omega) (by omega)).mono ?_
        rintro e V4 ⟨rfl, v4⟩
        rw [decide_eq_true (rfl : val = val)]
        have hbv := ab_trans hbv v4
        have HX : Hid (Is V4 (.slice q3 nv c3) val) := hO3.is.keep v4
        have hb4 := ab_trans hbw hbv
        go_wp2_with fail
        exact ⟨⟨j + 1, q3, nv, c3, val, by omega, rfl, rfl, HX.out, by omega, hb4⟩, by simp only [intOf]; omega⟩
      · rcases gd_kind h1 with ek | ek
        · have HN : Hid (doN ⟨kk, o, nn⟩ val = 0 ∧ doL ⟨kk, o, nn⟩ val = val) := do_read h1 ek
          clear h1
          dsimp only at ek
          subst ek
          obtain ⟨nv, hnv⟩ : ∃ k, val.length = k := ⟨_, rfl⟩
          go_wp2_with fail
          refine (gdo_at ⟨1, o, nn⟩ _ _ _ val val 0 _ soV snV hxV (by omega) HN.out).mono ?_
          rintro e V3 ⟨q3, c3, rfl, hO3, v3⟩
          rw [hnv] at hO3 ⊢
          rw [errV_ok rfl]
          have hbv := ab_trans hbv v3
          have E1 := geqN0
          have E2 := eq0B
          go_wp2_with fail
          refine (gints_any _ _ val val _ hO3.is (hxV.keep hbv) (by omega) (by omega)).mono ?_
          rintro e V4 ⟨rfl, v4⟩
          rw [decide_eq_true (rfl : val = val)]
          have hbv := ab_trans hbv v4
          have HX : Hid (Is V4 (.slice q3 nv c3) val) := hO3.is.keep v4
          have hb4 := ab_trans hbw hbv
          go_wp2_with fail
          exact ⟨⟨j + 1, q3, nv, c3, val, by omega, rfl, rfl, HX.out, by omega, hb4⟩, by simp only [intOf]; omega⟩
        · dsimp only at ek
          subst ek
          by_cases h2 : val = o
          · have HN : Hid (doN ⟨2, o, nn⟩ val = 0 ∧ doL ⟨2, o, nn⟩ val = nn) := do_swap h1 rfl h2
            have HV : Hid (val = o) := h2
            clear h1 h2
            go_wp2_with fail
            refine (gdo_at ⟨2, o, nn⟩ _ _ _ val nn 0 _ soV snV hxV (by omega) HN.out).mono ?_
            rintro e V3 ⟨q3, c3, rfl, hO3, v3⟩
            rw [hn2] at hO3 ⊢
            rw [errV_ok rfl]
            have hbv := ab_trans hbv v3
            have E1 := geqN0
            go_wp2_with fail
            refine (gints_any _ _ nn nn _ hO3.is (snV.keep hbv) (by omega) (by omega)).mono ?_
            rintro e V4 ⟨rfl, v4⟩
            rw [decide_eq_true (rfl : nn = nn)]
            have hbv := ab_trans hbv v4
            go_wp2_with fail
            refine (gints_any _ _ val o _ (hxV.keep hbv) (soV.keep hbv) (by omega) (by omega)).mono ?_
            rintro e V5 ⟨rfl, v5⟩
            rw [decide_eq_true HV.out]
            have hbv := ab_trans hbv v5
            have HX : Hid (Is V5 (.slice q3 n2 c3) nn) := hO3.is.keep (ab_trans v4 v5)
            have hb4 := ab_trans hbw hbv
            go_wp2_with fail
            exact ⟨⟨j + 1, q3, n2, c3, nn, by omega, rfl, rfl, HX.out, by omega, hb4⟩, by simp only [intOf]; omega⟩
          · have HN : Hid (doN ⟨2, o, nn⟩ val = 11 ∧ doL ⟨2, o, nn⟩ val = val) := do_stale h1 rfl h2
            have HV : Hid (val ≠ o) := h2
            clear h1 h2
            obtain ⟨nv, hnv⟩ : ∃ k, val.length = k := ⟨_, rfl⟩
            go_wp2_with fail
            refine (gdo_at ⟨2, o, nn⟩ _ _ _ val val 11 _ soV snV hxV (by omega) HN.out).mono ?_
            rintro e V3 ⟨q3, c3, rfl, hO3, v3⟩
            rw [hnv] at hO3 ⊢
            rw [errV_no (by decide)]
            have hbv := ab_trans hbv v3
            have E1 := eqB0
            have E2 := geqBB
            go_wp2_with fail
            refine (gints_any _ _ val val _ hO3.is (hxV.keep hbv) (by omega) (by omega)).mono ?_
            rintro e V4 ⟨rfl, v4⟩
            rw [decide_eq_true (rfl : val = val)]
            have hbv := ab_trans hbv v4
            go_wp2_with fail
            refine (gints_any _ _ val o _ (hxV.keep hbv) (soV.keep hbv) (by omega) (by omega)).mono ?_
            rintro e V5 ⟨rfl, v5⟩
            rw [decide_eq_false HV.out]
            have hbv := ab_trans hbv v5
            have HX : Hid (Is V5 (.slice q3 nv c3) val) := hO3.is.keep (ab_trans v4 v5)
            have hb4 := ab_trans hbw hbv
            go_wp2_with fail
            exact ⟨⟨j + 1, q3, nv, c3, val, by omega, rfl, rfl, HX.out, by omega, hb4⟩, by simp only [intOf]; omega⟩
theorem walk {W : World} (q : Option Addr) (m cap g off : Nat) (os : List CgD) (hs : CgRow W q m cap g off os) (v : Value) (l : List Int) (hv : IsZ W v l) :
    Calls Try.prog 7 #[.slice q m cap, v] W fun e w' => e = .returned (.bool true) ∧ Below W.heap.size W w' :=
  chains_walk q m cap g off os W hs v l hv.1
theorem own : ownKnob Try.prog.godebug = none := by kernel_rfl
theorem laidOut : laidOutB Try.prog = true := by kernel_rfl

set_option maxRecDepth 100000 in
theorem lifted (os : Os) (started : os.Started) (H : Type) (enc : TypeId × Value → H) :
    ReturnsInHanded {} Try.checked os 7 .any (Rows.changeChainsSpec.pre6 enc Try.prog Try.f7 Rows.changeChainsRow.domain false) (Rows.changeChainsSpec.post enc Try.prog Try.f7 false true false false) := by
  refine returnsInHanded_of_change_sized (C := Try.checked) own started (by kernel_rfl) Try.func7
    (ChangeSpec.witness6 (enc := enc) (C := Try.checked) false ⟨#[], #[.slice none 0 0, .slice none 0 0], []⟩ 8 (by kernel_rfl) (by kernel_rfl) (by kernel_rfl) (by kernel_rfl)) ?_
  intro W base args ds gs before hval0 hW hcnd hsz _
  have hval : ∀ (j : Nat) t v, Try.f7.params[j]? = some t → args[j]? = some v → Value.okWide Try.prog W .any base t v := hval0
  have hW' := hW
  obtain ⟨p, q, hA0, hV, rfl, hfz, hnd⟩ := hW
  have hA : DataW.TrodAll enc Try.prog W 0 (fun _ => true) true Try.f7.params.toList args.toList ds p := hA0
  rw [Try.params7] at hA hval
  obtain ⟨v0, vs0, d0, ds0, p0, q0, hargs, rfl, rfl, h0, r0⟩ := trodAll_cons hA
  obtain ⟨v1, vs1, d1, ds1, p1, q1, rfl, rfl, rfl, h1, r1⟩ := trodAll_cons r0
  obtain ⟨rfl, rfl, rfl⟩ := trodAll_nil r1
  obtain rfl : args = #[v0, v1] := by cases args; simp_all
  obtain ⟨rfl, rfl⟩ := trodVars_none hV
  have k0 := h0
  have lt0 : ∀ x ∈ p0, x.block < W.heap.size := by obtain ⟨m, hm⟩ := k0; exact DataW.trod_lt m _ _ _ hm
  have k1 := h1
  have lt1 : ∀ x ∈ p1, x.block < W.heap.size := by obtain ⟨m, hm⟩ := k1; exact DataW.trod_lt m _ _ _ hm
  obtain ⟨sq0_, sn0_, sk0_, sg0_, so0_, os0_, rfl, Z0_⟩ := open_changes (hval 0 51 v0 rfl rfl) h0 (fun n hn => by simpa using List.all_eq_true.1 hsz n (DataW.weights_mem_each (j := 0) (t := 51) (by kernel_rfl) rfl n hn))
  obtain ⟨l1_, Z1_⟩ := open_numsZ (hval 1 22 v1 rfl rfl) h1 (fun n hn => by simpa using List.all_eq_true.1 hsz n (DataW.weights_mem_each (j := 1) (t := 22) (by kernel_rfl) rfl n hn))
  clear hA0 hval0
  refine (walk sq0_ sn0_ sk0_ sg0_ so0_ os0_ Z0_ v1 l1_ Z1_).mono fun e W' ⟨he, bel⟩ => ?_
  subst he
  exact ⟨_, rfl, _, _, _, [], _, [], hW', trodAll_mk1 (shut_bool Try.underlying4 _), (trodAll_cons_mk (Below.trod laidOut (by kernel_rfl) (of_decide_eq_true (by kernel_rfl)) k0 bel lt0) (trodAll_cons_mk (Below.trod laidOut (by kernel_rfl) (of_decide_eq_true (by kernel_rfl)) k1 bel lt1) trodAll_mk0)), rfl, bel.frame _, fun h => by cases h⟩

theorem over : Rows.changeChainsRow.holds Try.pinned (OpenSpec.ofChange Rows.changeChainsSpec) :=
  OpenClaim.holds_of_wide 7 Try.f7 rfl rfl rfl rfl rfl rfl rfl ⟨rfl, rfl, rfl, rfl, rfl⟩ rfl rfl rfl rfl rfl (by kernel_rfl) Try.func7 (by kernel_rfl)
    (of_decide_eq_true (by kernel_rfl)) (by unfold Func.isWrapper; first | (rw [if_pos (by decide +kernel)]; kernel_rfl) | (rw [if_neg (by decide +kernel)]; exact ⟨rfl, rfl⟩))
    (fun os started H enc _ => lifted os started H enc)

theorem proved : Rows.ChangeChainsSaid := over
end Go.Proofs.Ytjmdekddkpadeaa.changeChains
namespace Go.Proofs.Ytjmdekddkpadeaa
theorem changeChains_holds : Rows.ChangeChainsSaid := changeChains.proved
#print axioms changeChains_holds
end Go.Proofs.Ytjmdekddkpadeaa
