/-
  The sum doesn't depend on how bytes are parted, and a frame's bytes neither: estuarylaw04.FrameSums returns true for every input; no condition.
-/
import Derived.Test.YtgimkaklocmhkabFrE
import Derived.Test.YtgimkaklocmhkabFrL
import Derived.ProofKit
import Derived.OpenShut
import Derived.ChangeOld
import Derived.Below
import Derived.Lib.SmallJoins
namespace Go.Proofs.Ytgimkaklocmhkab.frameSums
open Go.ChangeShapes Go.WideShapes Go.ChangeAt Go.RowKit Go.Joins
set_option linter.unusedVariables false

theorem flat3l (a b c : List Nat) : [a, b, c].flatten = a ++ b ++ c := by simp
theorem flat1l (a : List Nat) : [a].flatten = a := by simp
theorem all3 {a b c : List Nat} (ha : Byt a) (hb : Byt b) (hc : Byt c) : ∀ l ∈ [a, b, c], Byt l := by
  intro l hl; simp at hl; rcases hl with rfl | rfl | rfl <;> assumption
theorem all1 {a : List Nat} (ha : Byt a) : ∀ l ∈ [a], Byt l := by intro l hl; simp at hl; subst hl; exact ha
set_option maxRecDepth 100000 in
set_option maxHeartbeats 1000000 in
theorem walk {W : World} (v0 : Value) (a : List Nat) (S0 : Sl W v0 a) (B0 : Byt a) (v1 : Value) (b : List Nat) (S1 : Sl W v1 b) (B1 : Byt b) (v2 : Value) (c : List Nat) (S2 : Sl W v2 c) (B2 : Byt c) :
    Calls Try.prog 4 #[v0, v1, v2] W fun e w' => e = .returned (.bool true) ∧ Below W.heap.size W w' := by
  obtain ⟨q0, c0, e0, -⟩ := id S0
  obtain ⟨q1, c1, e1, -⟩ := id S1
  obtain ⟨q2, c2, e2, -⟩ := id S2
  subst e0; subst e1; subst e2
  go_enter Try.func4, Try.ntmps4
  go_upto_region 3 with (go_at_call 5; refine (alive4_any _).mono ?_; rintro e V1 ⟨rfl, hb1⟩)
  have S01 := S0.keep hb1
  have S11 := S1.keep hb1
  have S21 := S2.keep hb1
  go_wp2_with (refine bs_ls rfl rfl [_, _, _] [a, b, c] (by simp only [List.map_toArray, List.map_cons, List.map_nil]; rfl) (bsl3 _ _ _ _ _ _ _ _ _ _) rfl (by decide) rfl (each3 S01 S11 S21) ?_; intro V2 hls2 hb2 hbk2)
  refine (large_any _ _ _ _ hls2).mono ?_
  rintro e V3 ⟨⟨r, rfl, hr⟩, rfl⟩
  have hbV := ab_trans hb1 hb2
  clear hls2 hbk2 hb1 hb2 S01 S11 S21
  cases r with
  | true =>
    go_wp2_with fail
    go_ret
    exact ⟨rfl, hbV⟩
  | false =>
    obtain ⟨-, htot⟩ := hr rfl
    have hF3 : Hid ([a, b, c].flatten = a ++ b ++ c) := flat3l a b c
    have hF1 : Hid ([a ++ b ++ c].flatten = a ++ b ++ c) := flat1l _
    rw [hF3.out] at htot
    have hlen : (a ++ b ++ c).length = a.length + b.length + c.length := by simp; omega
    have HA3 : Hid (∀ l ∈ [a, b, c], Byt l) := all3 B0 B1 B2
    have HA1 : Hid (∀ l ∈ [a ++ b ++ c], Byt l) := all1 ((B0.append B1).append B2)
    have S0' := S0.keep hbV
    have S1' := S1.keep hbV
    have S2' := S2.keep hbV
    clear hr
    generalize hna : a.length = na at *
    generalize hnb : b.length = nb at *
    generalize hnc : c.length = nc at *
    generalize hL : a ++ b ++ c = L at *
    go_upto_region 6 with (first
      | (refine bs_by rfl rfl [] (vs := #[]) (by simp) (bsb0 _) rfl (by decide) ?_; intro V4 hN4 hb4 z4)
      | (at_builtin; refine app_by V3 rfl rfl rfl hN4 rfl (S0'.keep hb4) hna (by omega) hb4 ?_; intro v5 V5 hown5 hnil5 hb5 hgr5 hat5)
      | (at_builtin; refine app_by V3 rfl rfl rfl hown5 rfl (S1'.keep hb5) hnb (by omega) hb5 ?_; intro v6 V6 hown6 hnil6 hb6 hgr6 hat6)
      | (at_builtin; refine app_by V3 rfl rfl rfl hown6 rfl (S2'.keep hb6) hnc (by omega) hb6 ?_; intro v7 V7 hown7 hnil7 hb7 hgr7 hat7))
    have HO7 := ow_of hown7
    rw [List.nil_append, hL] at HO7
    have hbV7 := ab_trans hbV hb7
    have S07 := S0.keep hbV7
    have S17 := S1.keep hbV7
    have S27 := S2.keep hbV7
    clear hN4 hown5 hown6 hown7 hgr5 hgr6 hgr7 hat5 hat6 hat7 hnil5 hnil6 hnil7 hb4 hb5 hb6 z4 S0' S1' S2'
    obtain ⟨q7, cap7, rfl⟩ := HO7.form
    have HH3 : Hid (∀ l ∈ [a, b, c], l.length ≤ 100000) := by
      intro l hl; simp at hl; rcases hl with rfl | rfl | rfl <;> omega
    have HH1 : Hid (∀ l ∈ [L], l.length ≤ 100000) := by intro l hl; simp at hl; subst hl; omega
    clear hlen
    generalize hnL : L.length = nL at *
    by_cases hbig : nL ≤ 16376
    · go_upto_region 7 with (first
        | (refine bs_ls rfl rfl [_, _, _] [a, b, c] (by simp only [List.map_toArray, List.map_cons, List.map_nil]; rfl) (bsl3 _ _ _ _ _ _ _ _ _ _) rfl (by decide) rfl (each3 S07 S17 S27) ?_; intro V8 hls8 hb8 hbk8)
        | (go_at_call 6; refine (wrap_ok _ _ _ _ hls8 HA3.out (by rw [hF3.out]; rw [hnL]; exact hbig)).mono ?_; rw [hF3.out]; rintro e V9 ⟨v9, rfl, HO9, hn9, hb9⟩))
      go_upto_region 8 with (first
        | (refine bs_ls rfl rfl [_] [L] (by simp only [List.map_toArray, List.map_cons, List.map_nil]; rfl) (bsl1 _ _ _ _) rfl (by decide) rfl (each1 (HO7.keep (ab_trans hb8 hb9)).sl) ?_; intro V10 hls10 hb10 hbk10)
        | (go_at_call 6; refine (wrap_ok _ _ _ _ hls10 HA1.out (by rw [hF1.out]; rw [hnL]; exact hbig)).mono ?_; rw [hF1.out]; rintro e V11 ⟨v11, rfl, HO11, hn11, hb11⟩))
      have hb7_11 := ab_trans hb8 (ab_trans hb9 (ab_trans hb10 hb11))
      have S01 := S07.keep hb7_11
      have S11 := S17.keep hb7_11
      have S21 := S27.keep hb7_11
      have HO711 := HO7.keep hb7_11
      have HO911 := HO9.keep (ab_trans hb10 hb11)
      have hbV11 := ab_trans hbV7 hb7_11
      clear S07 S17 S27 HO7 HO9 hls8 hls10 hbk8 hbk10 hb8 hb9 hb10 hb11 hb7_11 hbV7
      go_wp2_with (refine bs_ls rfl rfl [_, _, _] [a, b, c] (by simp only [List.map_toArray, List.map_cons, List.map_nil]; rfl) (bsl3 _ _ _ _ _ _ _ _ _ _) rfl (by decide) rfl (each3 S01 S11 S21) ?_; intro V12 hls12 hb12 hbk12)
      refine (sum_any _ _ _ _ hls12 HA3.out).mono ?_
      rw [hF3.out]
      rintro e V13 ⟨rfl, rfl⟩
      go_wp2_with (refine bs_ls rfl rfl [_] [L] (by simp only [List.map_toArray, List.map_cons, List.map_nil]; rfl) (bsl1 _ _ _ _) rfl (by decide) rfl (each1 (HO711.keep hb12).sl) ?_; intro V14 hls14 hb14 hbk14)
      refine (sum_any _ _ _ _ hls14 HA1.out).mono ?_
      rw [hF1.out]
      rintro e V15 ⟨rfl, rfl⟩
      have hb11_15 := ab_trans hb12 hb14
      have hc9 := sl_str (HO911.keep hb11_15).sl
      have hc11 := sl_str (HO11.keep hb11_15).sl
      go_wp2_with (go_at_call 11; refine (num_nil _).mono ?_; rintro e V16 ⟨rfl, rfl⟩)
      go_ret
      exact ⟨rfl, ab_trans hbV11 hb11_15⟩
    · go_upto_region 7 with (first
        | (refine bs_ls rfl rfl [_, _, _] [a, b, c] (by simp only [List.map_toArray, List.map_cons, List.map_nil]; rfl) (bsl3 _ _ _ _ _ _ _ _ _ _) rfl (by decide) rfl (each3 S07 S17 S27) ?_; intro V8 hls8 hb8 hbk8)
        | (go_at_call 6; refine (wrap_no _ _ _ _ hls8 HH3.out (by rw [hF3.out, hnL]; omega)).mono ?_; rintro e V9 ⟨rfl, hb9⟩))
      go_upto_region 8 with (first
        | (refine bs_ls rfl rfl [_] [L] (by simp only [List.map_toArray, List.map_cons, List.map_nil]; rfl) (bsl1 _ _ _ _) rfl (by decide) rfl (each1 (HO7.keep (ab_trans hb8 hb9)).sl) ?_; intro V10 hls10 hb10 hbk10)
        | (go_at_call 6; refine (wrap_no _ _ _ _ hls10 HH1.out (by rw [hF1.out, hnL]; omega)).mono ?_; rintro e V11 ⟨rfl, hb11⟩))
      have hb7_11 := ab_trans hb8 (ab_trans hb9 (ab_trans hb10 hb11))
      have S01 := S07.keep hb7_11
      have S11 := S17.keep hb7_11
      have S21 := S27.keep hb7_11
      have HO711 := HO7.keep hb7_11
      have hbV11 := ab_trans hbV7 hb7_11
      clear S07 S17 S27 HO7 hls8 hls10 hbk8 hbk10 hb8 hb9 hb10 hb11 hb7_11 hbV7
      go_wp2_with (refine bs_ls rfl rfl [_, _, _] [a, b, c] (by simp only [List.map_toArray, List.map_cons, List.map_nil]; rfl) (bsl3 _ _ _ _ _ _ _ _ _ _) rfl (by decide) rfl (each3 S01 S11 S21) ?_; intro V12 hls12 hb12 hbk12)
      refine (sum_any _ _ _ _ hls12 HA3.out).mono ?_
      rw [hF3.out]
      rintro e V13 ⟨rfl, rfl⟩
      go_wp2_with (refine bs_ls rfl rfl [_] [L] (by simp only [List.map_toArray, List.map_cons, List.map_nil]; rfl) (bsl1 _ _ _ _) rfl (by decide) rfl (each1 (HO711.keep hb12).sl) ?_; intro V14 hls14 hb14 hbk14)
      refine (sum_any _ _ _ _ hls14 HA1.out).mono ?_
      rw [hF1.out]
      rintro e V15 ⟨rfl, rfl⟩
      have hb11_15 := ab_trans hb12 hb14
      have hc9 := sl_str (sl_nil V15)
      go_wp2_with (go_at_call 11; refine (num_err 7 (by decide) _).mono ?_; rintro e V16 ⟨rfl, rfl⟩)
      go_ret
      exact ⟨rfl, ab_trans hbV11 hb11_15⟩

theorem own : ownKnob Try.prog.godebug = none := by kernel_rfl
theorem laidOut : laidOutB Try.prog = true := by kernel_rfl

set_option maxRecDepth 100000 in
theorem lifted (os : Os) (started : os.Started) (H : Type) (enc : TypeId × Value → H) :
    ReturnsInHanded {} Try.checked os 4 .any (Rows.frameSumsSpec.pre6 enc Try.prog Try.f4 Rows.frameSumsRow.domain false) (Rows.frameSumsSpec.post enc Try.prog Try.f4 false true false false) := by
  refine returnsInHanded_of_change (C := Try.checked) own started (by kernel_rfl) Try.func4
    (ChangeSpec.witness6 (enc := enc) (C := Try.checked) false ⟨#[], #[.slice none 0 0, .slice none 0 0, .slice none 0 0], []⟩ 8 (by kernel_rfl) (by kernel_rfl) (by kernel_rfl) (by kernel_rfl)) ?_
  intro W base args ds gs before hval0 hW hcnd _
  have hval : ∀ (j : Nat) t v, Try.f4.params[j]? = some t → args[j]? = some v → Value.okWide Try.prog W .any base t v := hval0
  have hW' := hW
  obtain ⟨p, q, hA0, hV, rfl, hfz, hnd⟩ := hW
  have hA : DataW.TrodAll enc Try.prog W 0 (fun _ => true) true Try.f4.params.toList args.toList ds p := hA0
  rw [Try.params4] at hA hval
  obtain ⟨v0, vs0, d0, ds0, p0, q0, hargs, rfl, rfl, h0, r0⟩ := trodAll_cons hA
  obtain ⟨v1, vs1, d1, ds1, p1, q1, rfl, rfl, rfl, h1, r1⟩ := trodAll_cons r0
  obtain ⟨v2, vs2, d2, ds2, p2, q2, rfl, rfl, rfl, h2, r2⟩ := trodAll_cons r1
  obtain ⟨rfl, rfl, rfl⟩ := trodAll_nil r2
  obtain rfl : args = #[v0, v1, v2] := by cases args; simp_all
  obtain ⟨rfl, rfl⟩ := trodVars_none hV
  have k0 := h0
  have lt0 : ∀ x ∈ p0, x.block < W.heap.size := by obtain ⟨m, hm⟩ := k0; exact DataW.trod_lt m _ _ _ hm
  have k1 := h1
  have lt1 : ∀ x ∈ p1, x.block < W.heap.size := by obtain ⟨m, hm⟩ := k1; exact DataW.trod_lt m _ _ _ hm
  have k2 := h2
  have lt2 : ∀ x ∈ p2, x.block < W.heap.size := by obtain ⟨m, hm⟩ := k2; exact DataW.trod_lt m _ _ _ hm
  obtain ⟨l0_, S0_, B0_⟩ := open_bytes (hval 0 22 v0 rfl rfl) h0
  obtain ⟨l1_, S1_, B1_⟩ := open_bytes (hval 1 22 v1 rfl rfl) h1
  obtain ⟨l2_, S2_, B2_⟩ := open_bytes (hval 2 22 v2 rfl rfl) h2
  clear hA0 hval0
  refine (walk v0 l0_ S0_ B0_ v1 l1_ S1_ B1_ v2 l2_ S2_ B2_).mono fun e W' ⟨he, bel⟩ => ?_
  subst he
  exact ⟨_, rfl, _, _, _, [], _, [], hW', trodAll_mk1 (shut_bool Try.underlying4 _), (trodAll_cons_mk (Below.trod laidOut (by kernel_rfl) (of_decide_eq_true (by kernel_rfl)) k0 bel lt0) (trodAll_cons_mk (Below.trod laidOut (by kernel_rfl) (of_decide_eq_true (by kernel_rfl)) k1 bel lt1) (trodAll_cons_mk (Below.trod laidOut (by kernel_rfl) (of_decide_eq_true (by kernel_rfl)) k2 bel lt2) trodAll_mk0))), rfl, bel.frame _, fun h => by cases h⟩

theorem over : Rows.frameSumsRow.holds Try.pinned (OpenSpec.ofChange Rows.frameSumsSpec) :=
  OpenClaim.holds_of_wide 4 Try.f4 rfl rfl rfl rfl rfl rfl rfl ⟨rfl, rfl, rfl, rfl, rfl⟩ rfl rfl rfl rfl rfl (by kernel_rfl) Try.func4 (by kernel_rfl)
    (of_decide_eq_true (by kernel_rfl)) (by unfold Func.isWrapper; first | (rw [if_pos (by decide +kernel)]; kernel_rfl) | (rw [if_neg (by decide +kernel)]; exact ⟨rfl, rfl⟩))
    (fun os started H enc _ => lifted os started H enc)

theorem proved : Rows.FrameSumsSaid := over
end Go.Proofs.Ytgimkaklocmhkab.frameSums
namespace Go.Proofs.Ytgimkaklocmhkab
theorem frameSums_holds : Rows.FrameSumsSaid := frameSums.proved
#print axioms frameSums_holds
end Go.Proofs.Ytgimkaklocmhkab
