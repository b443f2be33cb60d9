/-
  A crash behind a crash changes nothing, and what was cut off never comes again: estuarylaw06.TapeAgain returns true for every input; no condition.
-/
import Derived.Test.YtoofgidmegplbabTpG
import Derived.ProofKit
import Derived.OpenShut
import Derived.ChangeOld
import Derived.Below
import Derived.Lib.SmallJoins
namespace Go.Proofs.Ytoofgidmegplbab.tapeAgain
open Go.ChangeShapes Go.WideShapes Go.ChangeAt Go.RowKit Go.Joins
set_option linter.unusedVariables false

theorem flat1l (a : List Nat) : [a].flatten = a := by simp
theorem strB_size (l : List Nat) : (strB l).size = l.length := by
  simp [strB, strOfNums, ByteArray.size]
set_option maxRecDepth 100000 in
set_option maxHeartbeats 2000000 in
theorem walk {W : World} (v0 : Value) (a : List Nat) (S0 : Sl W v0 a) (B0 : Byt a) (v1 : Value) (b : List Nat) (S1 : Sl W v1 b) (B1 : Byt b) (n : Int) (hn : -9223372036854775808 ≤ n ∧ n ≤ 9223372036854775807) :
    Calls Try.prog 3 #[v0, v1, .int .i64 n] W fun e w' => e = .returned (.bool true) ∧ Below W.heap.size W w' := by
  obtain ⟨q0, c0, e0, -⟩ := id S0
  obtain ⟨q1, c1, e1, -⟩ := id S1
  subst e0; subst e1
  go_enter Try.func3, Try.ntmps3
  go_upto_region 3 with (go_at_call 4; refine (alive6_any _).mono ?_; rintro e V1 ⟨rfl, hb1⟩)
  have HFa : Hid ([a].flatten = a) := flat1l a
  have HFb : Hid ([b].flatten = b) := flat1l b
  by_cases hbig : 5000 < a.length
  · generalize a.length = na at *
    go_wp2_with fail
    go_ret
    exact ⟨rfl, hb1⟩
  · by_cases hbig2 : 5000 < b.length
    · generalize a.length = na at *
      generalize b.length = nb at *
      go_wp2_with fail
      go_ret
      exact ⟨rfl, hb1⟩
    · have HAB : Hid ((a ++ b).take a.length = a) := List.take_left
      have HLab : Hid ((a ++ b).length = a.length + b.length) := List.length_append
      obtain ⟨j, hj⟩ : ∃ j, a.length + min n.toNat ((a ++ b).length - a.length) = j := ⟨_, rfl⟩
      have hjl : j ≤ (a ++ b).length := by rw [HLab.out] at hj ⊢; omega
      obtain ⟨L, hL⟩ : ∃ L, (a ++ b).take j = L := ⟨_, rfl⟩
      have HLl : Hid (L.length = j) := by show _ = _; rw [← hL, List.length_take]; omega
      have HLt : Hid (L.take j = L) := by show _ = _; rw [← hL, List.take_take, Nat.min_self]
      have HSz : Hid ((strB L).size = j) := by show _ = _; rw [strB_size, HLl.out]
      have HJ : Hid (a.length + min n.toNat ((a ++ b).length - a.length) = j) := hj
      have HL : Hid ((a ++ b).take j = L) := hL
      clear hj hL
      have hmx : Hid (a.length ≤ 5000) := by show _ ≤ _; omega
      have hmy : Hid (b.length ≤ 5000) := by show _ ≤ _; omega
      generalize hna : a.length = na at *
      generalize hnb : b.length = nb at *
      go_upto_region 6 with (go_at_call 5; refine (new_any _).mono ?_; rintro e V2 ⟨rfl, h2', b2⟩; have h2 := h2'.less hb1.size; have bw2 := ab_trans hb1 b2; have sa2 := stb_old h2 bw2 (Nat.le_refl _) S0; have sb2 := stb_old h2 bw2 (Nat.le_refl _) S1; clear h2')
      go_wp2_with (refine bs_ls rfl rfl [_] [a] (by simp only [List.map_toArray, List.map_cons, List.map_nil]; rfl) (bsl1 _ _ _ _) rfl (by decide) rfl (each1 sa2.sl) ?_; intro V3 ls3 b3 k3; have h3 := h2.keep b3; have st3 := stl_new (n := 1) [_] [a] h2 b3 k3 rfl (by decide) rfl (eachS1 sa2))
      refine (append_up _ _ _ _ _ _ _ _ _ _ h3 (by omega) st3 (by rw [HFa.out]; show 0 + a.length ≤ _; omega)).mono ?_
      rintro e V4 ⟨rfl, v4, h4', m4⟩
      have h4 : Tp V4 W.heap.size V1.heap.size v4 (up a 0 1) := by rw [HFa.out] at h4'; exact h4'
      have m24 := (mv_below _ b3).trans m4
      have sa4 := sa2.mv m24
      have sb4 := sb2.mv m24
      have bw4 := bw2.trans (h2.below m24)
      clear m24 m4 h4' st3 ls3 k3 h3 b3 sa2 sb2 h2 bw2
      go_wp2_with fail
      refine (sync_up _ _ _ _ _ _ _ h4 (by omega)).mono ?_
      rintro e V5 ⟨rfl, h5, m5⟩
      rw [hna] at h5
      have sa5 := sa4.mv m5
      have sb5 := sb4.mv m5
      have bw5 := bw4.trans (h4.below m5)
      clear m5 h4 sa4 sb4 bw4
      go_wp2_with (refine bs_ls rfl rfl [_] [b] (by simp only [List.map_toArray, List.map_cons, List.map_nil]; rfl) (bsl1 _ _ _ _) rfl (by decide) rfl (each1 sb5.sl) ?_; intro V6 ls6 b6 k6; have h6 := h5.keep b6; have st6 := stl_new (n := 1) [_] [b] h5 b6 k6 rfl (by decide) rfl (eachS1 sb5))
      refine (append_up _ _ _ _ _ _ _ _ _ _ h6 (by omega) st6 (by rw [HFb.out]; omega)).mono ?_
      rintro e V7 ⟨rfl, v7, h7', m7⟩
      have h7 : Tp V7 W.heap.size V1.heap.size v7 (up (a ++ b) na 3) := by rw [HFb.out] at h7'; exact h7'
      have m57 := (mv_below _ b6).trans m7
      have sa7 := sa5.mv m57
      have sb7 := sb5.mv m57
      have bw7 := bw5.trans (h5.below m57)
      clear m57 m7 h7' st6 ls6 k6 h6 b6 sa5 sb5 h5 bw5
      go_wp2_with fail
      refine (cut_up _ _ _ _ _ _ _ h7).mono ?_
      rintro e V8 ⟨rfl, v8, h8, m8⟩
      rw [HAB.out] at h8
      have sa8 := sa7.mv m8
      have sb8 := sb7.mv m8
      have bw8 := bw7.trans (h7.below m8)
      clear m8 h7 sa7 sb7 bw7
      go_upto_region 9 with fail
      have h9 := h8.keep (W' := V8.drew) (Below.refl _ _).drew
      have sa9 := sa8.keep (w' := V8.drew) (Below.refl _ _).drew
      have sb9 := sb8.keep (w' := V8.drew) (Below.refl _ _).drew
      refine wp_region_held_drew (S := fun w' => Below W.heap.size W w') (by kernel_rfl) bw8.drew (fun hHeld => ?_)
      clear h8 sa8 sb8 bw8
      generalize V8.drew = V9 at *
      have HCa : ∀ w, Below W.heap.size W w → (convert 22 9 (.slice q0 na c0)).run Try.prog w = .ok (.string (strB a)) w := fun w hw => sl_str (S0.keep hw)
      refine takeH (i := 0) (some 39) rfl rfl (by kernel_rfl) (by kernel_rfl) (by kernel_rfl) (fun _ _ _ h => h) (by rfl) (fun w hSw => by (try dsimp only at hSw); go_simp; try rfl) hHeld ?_
      go_frame
      refine takeH (i := 3) (some 42) rfl rfl (by kernel_rfl) (by kernel_rfl) (by kernel_rfl) (fun _ _ _ h => h) (by rfl) (fun w hSw => by (try dsimp only at hSw); go_simp; try rfl) hHeld ?_
      go_frame
      refine takeH (i := 4) (some 43) rfl rfl (by kernel_rfl) (by kernel_rfl) (by kernel_rfl) (fun _ _ _ h => h) (by rfl) (fun w hSw => by (try dsimp only at hSw); (have hc := HCa w hSw; go_simp; try rfl)) hHeld ?_
      go_frame
      refine wpAnyH_ready (rs := [1]) (by kernel_rfl) (by simp) (AllReadyH.cons rfl (fun K hK => ?_) AllReadyH.nil)
      go_simp
      refine (tread_any _ _ _ _ _ h9).mono ?_
      rintro e V10 ⟨v10, rfl, O10, b10⟩
      have h10 := h9.keep b10
      have sa10 := sa9.keep b10
      have sb10 := sb9.keep b10
      have hc10 := sl_str O10.sl
      show K _ _
      refine hK.out _ _ (hHeld.trans (b10.mono hHeld.size)) (fun hHeld => ?_)
      clear hK K
      refine wpAnyH_ready (rs := [2]) (by kernel_rfl) (by simp) (AllReadyH.cons rfl (fun K hK => ?_) AllReadyH.nil)
      go_simp
      refine hK.out _ _ hHeld (fun hHeld => ?_)
      clear hK K
      refine takeH (i := 5) (some 44) rfl rfl (by kernel_rfl) (by kernel_rfl) (by kernel_rfl) (fun _ _ _ h => h) (by rfl) (fun w hSw => by (try dsimp only at hSw); (refine (?_ : _ = Result.ok (Next.value (.bool false)) _); go_simp; try rfl)) hHeld ?_
      go_frame
      refine takeH (i := 6) (some 45) rfl rfl (by kernel_rfl) (by kernel_rfl) (by kernel_rfl) (fun _ _ _ h => h) (by rfl) (fun w hSw => by (try dsimp only at hSw); go_simp; try rfl) hHeld ?_
      go_frame
      refine takeH (i := 7) (some 46) rfl rfl (by kernel_rfl) (by kernel_rfl) (by kernel_rfl) (fun _ _ _ h => h) (by rfl) (fun w hSw => by (try dsimp only at hSw); go_simp; try rfl) hHeld ?_
      go_frame
      refine takeH (i := 8) (some 47) rfl rfl (by kernel_rfl) (by kernel_rfl) (by kernel_rfl) (fun _ _ _ h => h) (by rfl) (fun w hSw => by (try dsimp only at hSw); go_simp; try rfl) hHeld ?_
      go_frame
      refine wpAnyH_ready (rs := [9]) (by kernel_rfl) (by simp) (AllReadyH.cons rfl (fun K hK => ?_) AllReadyH.nil)
      rw [if_pos (by rfl)]
      refine bs_lsW (some 48) rfl rfl [.slice q1 nb c1] [b] (by simp only [List.map_toArray, List.map_cons, List.map_nil]; rfl) (bsl1 _ _ _ _) rfl (by decide) rfl (each1 sb10.sl) fun V11 ls11 b11 k11 => ?_
      have h11 := h10.keep b11
      have st11 := stl_new (n := 1) [_] [b] h10 b11 k11 rfl (by decide) rfl (eachS1 sb10)
      refine hK.out _ _ (hHeld.trans (b11.mono hHeld.size)) (fun hHeld => ?_)
      clear hK K
      go_frame
      refine wpAnyH_ready (rs := [10]) (by kernel_rfl) (by simp) (AllReadyH.cons rfl (fun K hK => ?_) AllReadyH.nil)
      go_simp
      refine (append_up _ _ _ _ _ _ _ _ _ _ h11 (by omega) st11 (by rw [HFb.out]; omega)).mono ?_
      rintro e V12 ⟨rfl, v12, h12', m12⟩
      have h12 : Tp V12 W.heap.size V1.heap.size v12 (up (a ++ b) na 4) := by rw [HFb.out] at h12'; exact h12'
      show K _ _
      refine hK.out _ _ (hHeld.trans (h11.below m12)) (fun hHeld => ?_)
      clear hK K
      refine takeH (i := 11) (some 50) rfl rfl (by kernel_rfl) (by kernel_rfl) (by kernel_rfl) (fun _ _ _ h => h) (by rfl) (fun w hSw => by (try dsimp only at hSw); go_simp; try rfl) hHeld ?_
      go_frame
      refine takeH (i := 12) (some 51) rfl rfl (by kernel_rfl) (by kernel_rfl) (by kernel_rfl) (fun _ _ _ h => h) (by rfl) (fun w hSw => by (try dsimp only at hSw); go_simp; try rfl) hHeld ?_
      go_frame
      refine wpAnyH_done (by kernel_rfl) ?_ _
      clear h12' m12 st11 ls11 k11 b11 h11 h10 sa10 sb10 hc10 O10 b10 h9 sa9 sb9 HCa
      go_wp2_with fail
      refine (crash_up _ _ _ _ n j _ h12 hn HJ.out).mono ?_
      rintro e V13 ⟨rfl, v13, h13', m13⟩
      have h13 : Tp V13 W.heap.size V1.heap.size v13 (up L j 4) := by rw [show (up (a ++ b) na 4).l.take j = L from HL.out] at h13'; exact h13'
      have bw13 := hHeld.trans (h12.below m13)
      clear hHeld h12 m13 h13'
      go_wp2_with fail
      refine (tread_any _ _ _ _ _ h13).mono ?_
      rintro e V14 ⟨v14, rfl, O14, b14⟩
      have hc14 := sl_str O14.sl
      have h14 := h13.keep b14
      have bw14 := bw13.trans (b14.mono bw13.size)
      clear h13 bw13 b14
      go_upto_region 13 with fail
      clear hc14 O14
      go_wp2_with fail
      refine (cut_up _ _ _ _ _ _ _ h14).mono ?_
      rintro e V15 ⟨rfl, v15, h15, m15⟩
      rw [HLt.out] at h15
      have bw15 := bw14.trans (h14.below m15)
      clear m15 h14 bw14
      go_wp2_with fail
      refine (crash_up _ _ _ _ 1073741824 j _ h15 (by omega) (by show j + min _ (L.length - j) = j; rw [HLl.out]; simp)).mono ?_
      rintro e V16 ⟨rfl, v16, h16', m16⟩
      have h16 : Tp V16 W.heap.size V1.heap.size v16 (up L j 4) := by rw [show (up L j 4).l.take j = L from HLt.out] at h16'; exact h16'
      have bw16 := bw15.trans (h15.below m16)
      clear m16 h15 bw15 h16'
      go_wp2_with fail
      refine (tread_any _ _ _ _ _ h16).mono ?_
      rintro e V17 ⟨v17, rfl, O17, b17⟩
      have hc17 : (convert 22 9 v17).run Try.prog V17 = .ok (.string (strB L)) V17 := sl_str O17.sl
      have h17 := h16.keep b17
      have bw17 := bw16.trans (b17.mono bw16.size)
      clear h16 bw16 b17
      go_wp2_with fail
      refine (sure_any _ _ _ h17.oct.c1).mono ?_
      rintro e V18 ⟨rfl, hV18⟩
      subst V18
      have hz := HSz.out
      go_wp2_with fail
      go_ret
      exact ⟨rfl, bw17⟩
theorem own : ownKnob Try.prog.godebug = none := by kernel_rfl
theorem laidOut : laidOutB Try.prog = true := by kernel_rfl

set_option maxRecDepth 100000 in
theorem lifted (os : Os) (started : os.Started) (H : Type) (enc : TypeId × Value → H) :
    ReturnsInHanded {} Try.checked os 3 .any (Rows.tapeAgainSpec.pre6 enc Try.prog Try.f3 Rows.tapeAgainRow.domain false) (Rows.tapeAgainSpec.post enc Try.prog Try.f3 false true false false) := by
  refine returnsInHanded_of_change (C := Try.checked) own started (by kernel_rfl) Try.func3
    (ChangeSpec.witness6 (enc := enc) (C := Try.checked) false ⟨#[], #[.slice none 0 0, .slice none 0 0, .int .i64 0], []⟩ 8 (by kernel_rfl) (by kernel_rfl) (by kernel_rfl) (by kernel_rfl)) ?_
  intro W base args ds gs before hval0 hW hcnd _
  have hval : ∀ (j : Nat) t v, Try.f3.params[j]? = some t → args[j]? = some v → Value.okWide Try.prog W .any base t v := hval0
  have hW' := hW
  obtain ⟨p, q, hA0, hV, rfl, hfz, hnd⟩ := hW
  have hA : DataW.TrodAll enc Try.prog W 0 (fun _ => true) true Try.f3.params.toList args.toList ds p := hA0
  rw [Try.params3] at hA hval
  obtain ⟨v0, vs0, d0, ds0, p0, q0, hargs, rfl, rfl, h0, r0⟩ := trodAll_cons hA
  obtain ⟨v1, vs1, d1, ds1, p1, q1, rfl, rfl, rfl, h1, r1⟩ := trodAll_cons r0
  obtain ⟨v2, vs2, d2, ds2, p2, q2, rfl, rfl, rfl, h2, r2⟩ := trodAll_cons r1
  obtain ⟨rfl, rfl, rfl⟩ := trodAll_nil r2
  obtain rfl : args = #[v0, v1, v2] := by cases args; simp_all
  obtain ⟨rfl, rfl⟩ := trodVars_none hV
  have k0 := h0
  have lt0 : ∀ x ∈ p0, x.block < W.heap.size := by obtain ⟨m, hm⟩ := k0; exact DataW.trod_lt m _ _ _ hm
  have k1 := h1
  have lt1 : ∀ x ∈ p1, x.block < W.heap.size := by obtain ⟨m, hm⟩ := k1; exact DataW.trod_lt m _ _ _ hm
  have k2 := h2
  have lt2 : ∀ x ∈ p2, x.block < W.heap.size := by obtain ⟨m, hm⟩ := k2; exact DataW.trod_lt m _ _ _ hm
  obtain ⟨l0_, S0_, B0_⟩ := open_bytes (hval 0 22 v0 rfl rfl) h0
  obtain ⟨l1_, S1_, B1_⟩ := open_bytes (hval 1 22 v1 rfl rfl) h1
  obtain ⟨a2, rfl, rfl, rfl, w2⟩ := open_int Try.underlying3 (hval 2 3 v2 rfl rfl) h2
  clear hA0 hval0
  refine (walk v0 l0_ S0_ B0_ v1 l1_ S1_ B1_ a2 (bounds_i64 w2)).mono fun e W' ⟨he, bel⟩ => ?_
  subst he
  exact ⟨_, rfl, _, _, _, [], _, [], hW', trodAll_mk1 (shut_bool Try.underlying4 _), (trodAll_cons_mk (Below.trod laidOut (by kernel_rfl) (of_decide_eq_true (by kernel_rfl)) k0 bel lt0) (trodAll_cons_mk (Below.trod laidOut (by kernel_rfl) (of_decide_eq_true (by kernel_rfl)) k1 bel lt1) (trodAll_cons_mk (Below.trod laidOut (by kernel_rfl) (of_decide_eq_true (by kernel_rfl)) k2 bel lt2) trodAll_mk0))), rfl, bel.frame _, fun h => by cases h⟩

theorem over : Rows.tapeAgainRow.holds Try.pinned (OpenSpec.ofChange Rows.tapeAgainSpec) :=
  OpenClaim.holds_of_wide 3 Try.f3 rfl rfl rfl rfl rfl rfl rfl ⟨rfl, rfl, rfl, rfl, rfl⟩ rfl rfl rfl rfl rfl (by kernel_rfl) Try.func3 (by kernel_rfl)
    (of_decide_eq_true (by kernel_rfl)) (by unfold Func.isWrapper; first | (rw [if_pos (by decide +kernel)]; kernel_rfl) | (rw [if_neg (by decide +kernel)]; exact ⟨rfl, rfl⟩))
    (fun os started H enc _ => lifted os started H enc)

theorem proved : Rows.TapeAgainSaid := over
end Go.Proofs.Ytoofgidmegplbab.tapeAgain
namespace Go.Proofs.Ytoofgidmegplbab
theorem tapeAgain_holds : Rows.TapeAgainSaid := tapeAgain.proved
#print axioms tapeAgain_holds
end Go.Proofs.Ytoofgidmegplbab
