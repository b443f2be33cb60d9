/-
  Behind every crash there is what was sure, and of the rest a beginning: estuarylaw06.TapeSure returns true for every input; no condition.
-/
import Derived.Test.YtoofgidmegplbaaTpH
import Derived.ProofKit
import Derived.OpenShut
import Derived.ChangeOld
import Derived.Below
import Derived.Lib.SmallJoins
namespace Go.Proofs.Ytoofgidmegplbaa.tapeSure
open Go.ChangeShapes Go.WideShapes Go.ChangeAt Go.RowKit Go.Joins
set_option linter.unusedVariables false

theorem flat1l (a : List Nat) : [a].flatten = a := by simp
theorem modK (t : Int) (m : Nat) (hb : m ≤ 1000) : ∃ k : Nat, k ≤ m ∧ wrap64 ((IntKind.u64.wrap t).tmod ((m : Int) + 1)) = ((k : Nat) : Int) := by
  have h0 : 0 ≤ t % 18446744073709551616 := Int.emod_nonneg _ (by decide)
  rw [IntKind.wrap_u64]
  generalize t % 18446744073709551616 = T at *
  obtain ⟨u, rfl⟩ := Int.eq_ofNat_of_zero_le h0
  have := Nat.mod_lt u (show 0 < m + 1 by omega)
  refine ⟨u % (m + 1), by omega, ?_⟩
  rw [Int.tmod_eq_emod_of_nonneg h0, show (m : Int) + 1 = ((m + 1 : Nat) : Int) from rfl, ← Int.natCast_emod]
  generalize u % (m + 1) = z at *
  unfold wrap64
  omega
/-- All bytes of the first i rows. -/
def fl (ls : List (List Nat)) (i : Nat) : List Nat := (ls.take i).flatten
theorem fl_next (ls : List (List Nat)) (i : Nat) (l : List Nat) (h : ls[i]? = some l) : fl ls (i + 1) = fl ls i ++ l := flat_take ls i l h
theorem fl_pre (ls : List (List Nat)) (m i : Nat) (h : m ≤ i) : (fl ls i).take (fl ls m).length = fl ls m ∧ (fl ls m).length ≤ (fl ls i).length := by
  have e : fl ls i = fl ls m ++ ((ls.take i).drop m).flatten := by
    unfold fl
    rw [← List.flatten_append]
    congr 1
    conv => lhs; rw [← List.take_append_drop m (ls.take i)]
    rw [List.take_take, Nat.min_eq_left h]
  rw [e]
  exact ⟨List.take_left, by rw [List.length_append]; omega⟩
set_option maxRecDepth 100000 in
set_option maxHeartbeats 1000000 in
theorem walk {W : World} (v0 : Value) (vs : List Value) (ls : List (List Nat)) (S0 : Ls W v0 vs ls) (B0 : ∀ l ∈ ls, Byt l) (sy : Int) (hsy : -9223372036854775808 ≤ sy ∧ sy ≤ 9223372036854775807) (kp0 : Int) (hkp : -9223372036854775808 ≤ kp0 ∧ kp0 ≤ 9223372036854775807) :
    Calls Try.prog 4 #[v0, .int .i64 sy, .int .i64 kp0] W fun e w' => e = .returned (.bool true) ∧ Below W.heap.size W w' := by
  obtain ⟨q, cap, g, off, e0, hc, hm, hp, hg, hr⟩ := S0.open
  have hlen := S0.len
  have hE := S0.each
  subst e0
  clear S0 B0
  generalize hn : ls.length = n at *
  go_enter Try.func4, Try.ntmps4
  go_upto_region 3 with (go_at_call 9; refine (alive6_any _).mono ?_; rintro e V1 ⟨rfl, hb1⟩)
  by_cases hbig : 100 < n
  · go_wp2_with fail
    go_ret
    exact ⟨rfl, hb1⟩
  · obtain ⟨k, hk, HK⟩ := modK sy n (by omega)
    have hbi : ¬ (100 : Int) < (n : Int) := by omega
    go_upto_region 6 with (go_at_call 11; refine (new_any _).mono ?_; rintro e V2 ⟨rfl, h2', b2⟩; have h2 := h2'.less hb1.size; have bw2 := ab_trans hb1 b2; clear h2')
    go_upto_region 8 with fail
    rw [HK]
    clear HK
    go_wp2_with fail
    go_loopw [8, 9, 31] (fun su al x wr => ∃ (i : Nat) (v : Value), i ≤ n ∧ x = .int .i64 (i : Int) ∧ al = .string (strB (fl ls i)) ∧ su = .string (strB (fl ls (min i k))) ∧ (fl ls i).length ≤ 5000 * i ∧ Tp wr W.heap.size V1.heap.size v (up (fl ls i) (fl ls (min i k)).length (i + min i k)) ∧ Below W.heap.size W wr) (fun _ _ x _ => n - (intOf x).toNat)
    case atStart => exact ⟨0, _, by omega, rfl, by rw [show strB (fl ls 0) = ⟨#[]⟩ from rfl], by rw [Nat.zero_min, show strB (fl ls 0) = ⟨#[]⟩ from rfl], by simp [fl], by rw [Nat.zero_min]; exact h2, bw2⟩
    case round =>
      clear h2 bw2
      obtain ⟨i, v, hi, rfl, rfl, rfl, hl5, h3, bw3⟩ := hrel
      by_cases hin : i = n
      · subst hin
        clear hp hr hE
        go_upto_region 19 with fail
        obtain ⟨hpre, hple⟩ := fl_pre ls (min i k) i (by omega)
        generalize hP : fl ls (min i k) = P at *
        generalize hL : fl ls i = L at *
        obtain ⟨s, hs⟩ : ∃ s, P.length = s := ⟨_, rfl⟩
        obtain ⟨N, hN⟩ : ∃ N, L.length = N := ⟨_, rfl⟩
        rw [hs, hN] at hple
        rw [hs] at hpre h3
        obtain ⟨M, hM⟩ : ∃ M, min kp0.toNat (N - s) = M := ⟨_, rfl⟩
        have hMi : (if (N : Int) - (s : Int) < (if kp0 < 0 then 0 else kp0) then (N : Int) - (s : Int) else (if kp0 < 0 then 0 else kp0)) = ((M : Nat) : Int) := by
          rw [← hM]
          split <;> split at * <;> omega
        have HJ : Hid ((up L s (i + min i k)).sure + min kp0.toNat ((up L s (i + min i k)).l.length - (up L s (i + min i k)).sure) = s + M) := by show s + min kp0.toNat (L.length - s) = s + M; rw [hN, hM]
        have hz1 : (strB P).size = s := by rw [strB_len, hs]
        have hz2 : (strB L).size = N := by rw [strB_len, hN]
        have hz3 : Hid ((strB (L.take (s + M))).size = s + M) := by show _ = _; rw [strB_len, List.length_take]; omega
        have HN5 : N ≤ 500000 := by omega
        clear hM
        go_wp2_with fail
        refine (crash_up _ _ _ _ kp0 (s + M) _ h3 hkp HJ.out).mono ?_
        rintro e V4 ⟨rfl, v4, h4', m4⟩
        have h4 : Tp V4 W.heap.size V1.heap.size v4 (up (L.take (s + M)) (s + M) (i + min i k)) := h4'
        have bw4 := bw3.trans (h3.below m4)
        clear m4 h4' h3 bw3 HJ
        go_wp2_with fail
        refine (tread_any _ _ _ _ _ h4).mono ?_
        rintro e V5 ⟨v5, rfl, O5, b5⟩
        have hc5 : (convert 30 9 v5).run Try.prog V5 = .ok (.string (strB (L.take (s + M)))) V5 := sl_str O5.sl
        have h5 := h4.keep b5
        have bw5 := bw4.trans (b5.mono bw4.size)
        clear h4 b5 bw4
        go_upto_region 22 with fail
        have HTT : Hid ((L.take (s + M)).take s = P) := by show _ = _; rw [List.take_take, Nat.min_eq_left (by omega), hpre]
        have HLE : Hid (s ≤ (L.take (s + M)).length) := by show _ ≤ _; rw [List.length_take]; omega
        have HLM : Hid (s + M ≤ L.length) := by show _ ≤ _; omega
        have hz3' := hz3.out
        clear hMi hpre hc5 O5
        go_wp2_with (first
          | (refine ss_h (l := L) rfl rfl (s + M) rfl rfl (by omega) HLM.out ?_)
          | (go_at_call 13; refine (sure_any _ _ _ h5.oct.c1).mono ?_; rintro e X ⟨rfl, hX⟩; subst X)
          | (refine ss_h (l := L.take (s + M)) rfl rfl s rfl rfl rfl HLE.out ?_; rw [HTT.out]))
        all_goals (go_ret; exact ⟨rfl, bw5⟩)
      · obtain ⟨y, hy⟩ : ∃ y, vs[i]? = some y := ⟨vs[i], List.getElem?_eq_getElem (by omega)⟩
        obtain ⟨l, hl⟩ : ∃ l, ls[i]? = some l := ⟨ls[i], List.getElem?_eq_getElem (by omega)⟩
        obtain rfl := hp (by omega)
        have d := (bw3.cell (p := ⟨g, off + i, none⟩) (hg (by omega))).trans (hr i y hy)
        have hsx0 := hE i y l hy hl
        have hsx := hsx0.keep bw3
        have sb3 := stb_old h3 bw3 (Nat.le_refl _) hsx0
        obtain ⟨q2, cap2, ey, -⟩ := id hsx
        have hki : (i : Int) < (n : Int) := by omega
        have hkn : i < n := by omega
        have HT : Hid (fl ls (i + 1) = fl ls i ++ l) := fl_next ls i l hl
        subst ey
        clear hr hp hg hy hl hE hsx0
        by_cases hb5 : 5000 < l.length
        · generalize l.length = nl at *
          go_wp2_with fail
          go_ret
          exact ⟨rfl, bw3⟩
        · have hb5' : ¬ (5000 : Int) < (l.length : Int) := by omega
          have hsz : ¬ 9223372036854775807 < (strB (fl ls i)).size + (strB l).size := by rw [strB_len, strB_len]; omega
          have hst : i + min i k < 4611686018427387904 := by omega
          have hfit : Hid ((fl ls i).length + [l].flatten.length ≤ 1048576) := by show _ ≤ _; rw [flat1l]; omega
          have HL1 : Hid ((fl ls (i + 1)).length ≤ 5000 * (i + 1)) := by show _ ≤ _; rw [HT.out, List.length_append]; omega
          generalize hnl : l.length = nl at *
          go_wp2_with (refine bs_ls rfl rfl [_] [l] (by simp only [List.map_toArray, List.map_cons, List.map_nil]; rfl) (bsl1 _ _ _ _) rfl (by decide) rfl (each1 sb3.sl) ?_; intro V4 ls4 b4 k4; have h4 := h3.keep b4; have st4 := stl_new (n := 1) [_] [l] h3 b4 k4 rfl (by decide) rfl (eachS1 sb3))
          refine (append_up _ _ _ _ _ _ _ _ _ _ h4 hst st4 hfit.out).mono ?_
          rintro e V5 ⟨rfl, v5, h5, m5⟩
          rw [flat1l, ← HT.out] at h5
          have m35 := (mv_below _ b4).trans m5
          have hc5 := sl_str (sb3.mv m35).sl
          have bw5 := bw3.trans (h3.below m35)
          clear m35 m5 st4 ls4 k4 b4 h4 sb3 h3 bw3 hsx d
          by_cases hik : i < k
          · have hiki : (i : Int) < (k : Int) := by omega
            have hmn : min i k = i := by omega
            have hmn1 : min (i + 1) k = i + 1 := by omega
            rw [hmn] at h5
            go_wp2_with fail
            refine (sync_up _ _ _ _ _ _ _ h5 (by omega)).mono ?_
            rintro e V6 ⟨rfl, h6, m6⟩
            have bw6 := bw5.trans (h5.below m6)
            go_wp2_with fail
            rw [strB_app, ← HT.out]
            refine ⟨⟨i + 1, v5, by omega, rfl, rfl, by rw [hmn1], HL1.out, by rw [hmn1, show i + 1 + (i + 1) = i + i + 1 + 1 by omega]; exact h6, bw6⟩, by simp only [intOf]; omega⟩
          · have hiki : ¬ (i : Int) < (k : Int) := by omega
            have hmn : min i k = k := by omega
            have hmn1 : min (i + 1) k = k := by omega
            go_wp2_with fail
            rw [strB_app, ← HT.out]
            refine ⟨⟨i + 1, v5, by omega, rfl, rfl, by rw [hmn1], HL1.out, by rw [hmn1, show i + 1 + k = i + k + 1 by omega]; rw [hmn] at h5; exact h5, bw5⟩, by simp only [intOf]; omega⟩

theorem own : ownKnob Try.prog.godebug = none := by kernel_rfl
theorem laidOut : laidOutB Try.prog = true := by kernel_rfl

set_option maxRecDepth 100000 in
theorem lifted (os : Os) (started : os.Started) (H : Type) (enc : TypeId × Value → H) :
    ReturnsInHanded {} Try.checked os 4 .any (Rows.tapeSureSpec.pre6 enc Try.prog Try.f4 Rows.tapeSureRow.domain false) (Rows.tapeSureSpec.post enc Try.prog Try.f4 false true false false) := by
  refine returnsInHanded_of_change (C := Try.checked) own started (by kernel_rfl) Try.func4
    (ChangeSpec.witness6 (enc := enc) (C := Try.checked) false ⟨#[], #[.slice none 0 0, .int .i64 0, .int .i64 0], []⟩ 8 (by kernel_rfl) (by kernel_rfl) (by kernel_rfl) (by kernel_rfl)) ?_
  intro W base args ds gs before hval0 hW hcnd _
  have hval : ∀ (j : Nat) t v, Try.f4.params[j]? = some t → args[j]? = some v → Value.okWide Try.prog W .any base t v := hval0
  have hW' := hW
  obtain ⟨p, q, hA0, hV, rfl, hfz, hnd⟩ := hW
  have hA : DataW.TrodAll enc Try.prog W 0 (fun _ => true) true Try.f4.params.toList args.toList ds p := hA0
  rw [Try.params4] at hA hval
  obtain ⟨v0, vs0, d0, ds0, p0, q0, hargs, rfl, rfl, h0, r0⟩ := trodAll_cons hA
  obtain ⟨v1, vs1, d1, ds1, p1, q1, rfl, rfl, rfl, h1, r1⟩ := trodAll_cons r0
  obtain ⟨v2, vs2, d2, ds2, p2, q2, rfl, rfl, rfl, h2, r2⟩ := trodAll_cons r1
  obtain ⟨rfl, rfl, rfl⟩ := trodAll_nil r2
  obtain rfl : args = #[v0, v1, v2] := by cases args; simp_all
  obtain ⟨rfl, rfl⟩ := trodVars_none hV
  have k0 := h0
  have lt0 : ∀ x ∈ p0, x.block < W.heap.size := by obtain ⟨m, hm⟩ := k0; exact DataW.trod_lt m _ _ _ hm
  have k1 := h1
  have lt1 : ∀ x ∈ p1, x.block < W.heap.size := by obtain ⟨m, hm⟩ := k1; exact DataW.trod_lt m _ _ _ hm
  have k2 := h2
  have lt2 : ∀ x ∈ p2, x.block < W.heap.size := by obtain ⟨m, hm⟩ := k2; exact DataW.trod_lt m _ _ _ hm
  obtain ⟨vs0_, ls0_, S0_, B0_⟩ := open_lists (hval 0 37 v0 rfl rfl) h0
  obtain ⟨a1, rfl, rfl, rfl, w1⟩ := open_int Try.underlying3 (hval 1 3 v1 rfl rfl) h1
  obtain ⟨a2, rfl, rfl, rfl, w2⟩ := open_int Try.underlying3 (hval 2 3 v2 rfl rfl) h2
  clear hA0 hval0
  refine (walk v0 vs0_ ls0_ S0_ B0_ a1 (bounds_i64 w1) a2 (bounds_i64 w2)).mono fun e W' ⟨he, bel⟩ => ?_
  subst he
  exact ⟨_, rfl, _, _, _, [], _, [], hW', trodAll_mk1 (shut_bool Try.underlying4 _), (trodAll_cons_mk (Below.trod laidOut (by kernel_rfl) (of_decide_eq_true (by kernel_rfl)) k0 bel lt0) (trodAll_cons_mk (Below.trod laidOut (by kernel_rfl) (of_decide_eq_true (by kernel_rfl)) k1 bel lt1) (trodAll_cons_mk (Below.trod laidOut (by kernel_rfl) (of_decide_eq_true (by kernel_rfl)) k2 bel lt2) trodAll_mk0))), rfl, bel.frame _, fun h => by cases h⟩

theorem over : Rows.tapeSureRow.holds Try.pinned (OpenSpec.ofChange Rows.tapeSureSpec) :=
  OpenClaim.holds_of_wide 4 Try.f4 rfl rfl rfl rfl rfl rfl rfl ⟨rfl, rfl, rfl, rfl, rfl⟩ rfl rfl rfl rfl rfl (by kernel_rfl) Try.func4 (by kernel_rfl)
    (of_decide_eq_true (by kernel_rfl)) (by unfold Func.isWrapper; first | (rw [if_pos (by decide +kernel)]; kernel_rfl) | (rw [if_neg (by decide +kernel)]; exact ⟨rfl, rfl⟩))
    (fun os started H enc _ => lifted os started H enc)

theorem proved : Rows.TapeSureSaid := over
end Go.Proofs.Ytoofgidmegplbaa.tapeSure
namespace Go.Proofs.Ytoofgidmegplbaa
theorem tapeSure_holds : Rows.TapeSureSaid := tapeSure.proved
#print axioms tapeSure_holds
end Go.Proofs.Ytoofgidmegplbaa
