/-
  Of frames one behind the other, cut anywhere, just those are split off that are whole: estuarylaw04.FrameCuts returns true for every input; no condition.
-/
import Derived.Test.YtgimkaklocmhkaaFrE
import Derived.Test.YtgimkaklocmhkaaFrI
import Derived.Test.YtgimkaklocmhkaaFrL
import Derived.ProofKit
import Derived.OpenShut
import Derived.ChangeOld
import Derived.Below
import Derived.Lib.SmallJoins
namespace Go.Proofs.Ytgimkaklocmhkaa.frameCuts
open Go.ChangeShapes Go.WideShapes Go.ChangeAt Go.RowKit Go.Joins
set_option linter.unusedVariables false

theorem flat1l (a : List Nat) : [a].flatten = a := by simp
theorem all1 {a : List Nat} (ha : Byt a) : ∀ l ∈ [a], Byt l := by intro l hl; simp at hl; subst hl; exact ha
theorem ib0 (w : World) : (Instr.buildSlice 23 0 #[]).run Try.prog w = .ok (.slice (some ⟨w.heap.size, 0, none⟩) 0 0) (w.alloc (.cells (ints []).toArray 3)) := by kernel_rfl
/-- Where the first frames end. -/
def ends (rs : List (List Nat)) : Nat → List Int
  | 0 => []
  | k + 1 => ends rs k ++ [((spN (rs.take (k + 1)) : Nat) : Int)]
theorem ends_len (rs : List (List Nat)) (k : Nat) : (ends rs k).length = k := by
  induction k with
  | zero => rfl
  | succ k ih => simp [ends, ih]
theorem ends_at (rs : List (List Nat)) (k j : Nat) (hj : j < k) : (ends rs k)[j]? = some ((spN (rs.take (j + 1)) : Nat) : Int) := by
  induction k with
  | zero => omega
  | succ k ih =>
    rw [ends]
    by_cases c : j < k
    · rw [List.getElem?_append_left (by rw [ends_len]; exact c)]; exact ih c
    · have e : j = k := by omega
      subst e
      rw [List.getElem?_append_right (by rw [ends_len]; exact Nat.le_refl _), ends_len]; simp
theorem frms_take (rs : List (List Nat)) (k : Nat) (r : List Nat) (h : rs[k]? = some r) : frms (rs.take (k + 1)) = frms (rs.take k) ++ frm r := by
  rw [List.take_add_one, h, Option.toList_some, frms_snoc]
theorem spN_take (rs : List (List Nat)) (k : Nat) (r : List Nat) (h : rs[k]? = some r) : spN (rs.take (k + 1)) = spN (rs.take k) + (8 + r.length) := by
  rw [List.take_add_one, h, Option.toList_some, spN_snoc]
theorem spN_flat (rs : List (List Nat)) : spN rs = 8 * rs.length + rs.flatten.length := by
  induction rs with
  | nil => rfl
  | cons r t ih => simp [spN] at ih ⊢; omega
theorem at_k (t : Int) (T : Nat) (hT : T ≤ 1000000) : ∃ kk : Nat, kk ≤ T ∧ wrap64 ((IntKind.u64.wrap t).tmod ((T : Int) + 1)) = ((kk : Nat) : Int) := by
  have h0 : 0 ≤ t % 18446744073709551616 := Int.emod_nonneg _ (by decide)
  rw [IntKind.wrap_u64]
  generalize t % 18446744073709551616 = U at *
  obtain ⟨u, rfl⟩ := Int.eq_ofNat_of_zero_le h0
  have hz := Nat.mod_lt u (show 0 < T + 1 by omega)
  refine ⟨u % (T + 1), by omega, ?_⟩
  rw [show (T : Int) + 1 = ((T + 1 : Nat) : Int) from by omega, Int.tmod_eq_emod_of_nonneg h0, ← Int.natCast_emod]
  generalize u % (T + 1) = z at *
  unfold wrap64
  omega
set_option maxRecDepth 100000 in
set_option maxHeartbeats 2000000 in
theorem walk {W : World} (v0 : Value) (vs : List Value) (rs : List (List Nat)) (S0 : Ls W v0 vs rs) (B0 : ∀ l ∈ rs, Byt l) (t : Int) (ht : -9223372036854775808 ≤ t ∧ t ≤ 9223372036854775807) :
    Calls Try.prog 8 #[v0, .int .i64 t] W fun e w' => e = .returned (.bool true) ∧ Below W.heap.size W w' := by
  obtain ⟨q, cap, g, off, rfl, hc, hm, hp, hg, hr⟩ := S0.open
  have hlen := S0.len
  go_enter Try.func8, Try.ntmps8
  go_upto_region 3 with (go_at_call 9; refine (alive4_any _).mono ?_; rintro e V1 ⟨rfl, hb1⟩)
  have S01 := S0.keep hb1
  go_wp2_with fail
  refine (large_any _ _ _ _ S01).mono ?_
  rintro e V3 ⟨⟨r, rfl, hr3⟩, rfl⟩
  cases r with
  | true =>
    go_wp2_with fail
    go_ret
    exact ⟨rfl, hb1⟩
  | false =>
    obtain ⟨h300, htot⟩ := hr3 rfl
    have HSF : Hid (∀ k, spN (rs.take k) ≤ 100000) := by
      intro k
      have h1 := spN_flat (rs.take k)
      have h2 := flat_mono rs k
      rw [List.length_take] at h1
      omega
    have HFL : Hid (∀ k, (frms (rs.take k)).length = spN (rs.take k)) := fun k => frms_len _
    have hE := S01.each
    clear hr3 S0
    generalize hn : rs.length = n at *
    go_upto_region 7 with (first
      | (refine bs_by rfl rfl [] (vs := #[]) (by simp) (bsb0 _) rfl (by decide) ?_; intro V4 hN4 hb4 z4)
      | (refine bs_own rfl rfl [] (vs := #[]) (by simp) (ib0 _) rfl (by decide) ?_; intro V5 hN5 hb5 z5))
    go_wp2_with fail
    go_loopw [5, 6, 24] (fun x y i wr => ∃ k : Nat, k ≤ n ∧ i = .int .i64 (k : Int) ∧ Ow wr V3.heap.size x (frms (rs.take k)) ∧ Io wr V3.heap.size y (ends rs k) ∧ Sep x y ∧ (∀ l ∈ rs.take k, l.length ≤ 16376) ∧ Below V3.heap.size V3 wr) (fun _ _ i _ => n - (intOf i).toNat)
    case atStart =>
      refine ⟨0, by omega, rfl, ?_, ?_, ?_, ?_, ab_trans hb4 hb5⟩
      · exact (ow_of hN4).keep hb5
      · have h5 := (io_of hN5).less hb4.size
        rw [z4] at h5
        exact h5
      · intro k hk he
        simp [Value.ownBlock] at hk he
        omega
      · intro l hl; simp at hl
    case round =>
      clear hN4 hN5 z4 z5
      obtain ⟨k, hk, rfl, HO, HE, HSep, H16, hbk⟩ := hrel
      by_cases c : k = n
      · subst c
        rw [List.take_of_length_le (by omega)] at HO H16
        have hT := frms_len rs
        have hsN := HSF.out k
        rw [List.take_of_length_le (by omega)] at hsN
        have HCut : Hid (∀ kk m, m ≤ k → spN (rs.take m) ≤ kk → (m < k → kk < spN (rs.take (m + 1))) → spt ((frms rs).take kk) = rs.take m) := by
          intro kk m h1 h2 h3
          exact spt_cut rs H16 kk m (by omega) h2 (by rw [hn]; exact h3)
        have HBy : Hid (Byt (frms rs)) := frms_byt B0
        have HNk : Hid (spN rs = spN (rs.take k)) := by show _ = _; rw [List.take_of_length_le (by omega)]
        obtain ⟨q5, cap5, e5⟩ := HO.form
        rw [hT] at e5
        subst e5
        obtain ⟨kk, hkk, HK⟩ := at_k t (spN rs) (by omega)
        have hsl := HO.sl
        generalize hA : spN rs = A at *
        obtain ⟨qe, cape, ge, offe, ee, hce, hme, hpe, hge, hre⟩ := HE.is
        rw [ends_len] at ee hce hpe hge
        subst ee
        have HRE : Hid (∀ j, j < k → IRow wr ge offe (ends rs k) → wr.cell? ⟨ge, offe + j, none⟩ = some (.int .i64 ((spN (rs.take (j + 1)) : Nat) : Int))) := fun j hj h => h j _ (ends_at rs k j hj)
        clear H16 hT
        go_upto_region 17 with fail
        rw [HK]
        clear HK
        go_wp2_with fail
        go_loopw [12] (fun i wr' => ∃ m : Nat, m ≤ k ∧ i = .int .i64 (m : Int) ∧ spN (rs.take m) ≤ kk ∧ wr' = wr) (fun i _ => k - (intOf i).toNat)
        case atStart => exact ⟨0, by omega, rfl, by simp [spN], rfl⟩
        case round =>
          obtain ⟨m, hmk, rfl, hmkk, rfl⟩ := hrel
          by_cases c2 : m < k ∧ spN (rs.take (m + 1)) ≤ kk
          · obtain ⟨c2, c3⟩ := c2
            have dm := HRE.out m c2 hre
            obtain rfl := hpe (by omega)
            have hmi : (m : Int) < (k : Int) := by omega
            generalize hB : spN (rs.take (m + 1)) = B at *
            clear hre hr hp hg hE
            go_wp2_with fail
            exact ⟨⟨m + 1, by omega, rfl, by rw [hB]; exact c3, trivial⟩, by simp only [intOf]; omega⟩
          · have HX : Hid (spt ((frms rs).take kk) = rs.take m) := HCut.out kk m hmk hmkk (fun h => by
              by_cases c3 : spN (rs.take (m + 1)) ≤ kk
              · exact absurd ⟨h, c3⟩ c2
              · omega)
            have HBk : Hid (Byt ((frms rs).take kk)) := HBy.out.take kk
            have HLk : Hid (((frms rs).take kk).length ≤ 1000000) := by show _ ≤ _; rw [List.length_take]; omega
            have HML : Hid ((rs.take m).length = m) := by show _ = _; rw [List.length_take]; omega
            have HRm : Hid (0 < m → IRow wr ge offe (ends rs k) → wr.cell? ⟨ge, offe + (m - 1), none⟩ = some (.int .i64 ((spN (rs.take m) : Nat) : Int))) := fun h0 h => by
              have := HRE.out (m - 1) (by omega) h
              rwa [show m - 1 + 1 = m by omega] at this
            have HD : Hid (m < k → wr.cell? ⟨ge, offe + m, none⟩ = some (.int .i64 ((spN (rs.take (m + 1)) : Nat) : Int))) := fun h => HRE.out m h hre
            have hB2 : m < k → ¬ spN (rs.take (m + 1)) ≤ kk := fun h h2 => c2 ⟨h, h2⟩
            generalize hM : spN (rs.take m) = M at *
            generalize hB : spN (rs.take (m + 1)) = B at *
            have hm0 : m = 0 → M = 0 := fun h => by rw [← hM, h]; simp [spN]
            clear c2 HRE HCut
            by_cases c3 : m < k
            · have hB3 := hB2 c3
              have dm := HD.out c3
              obtain rfl := hpe (by omega)
              have hmi : (m : Int) < (k : Int) := by omega
              clear HD hB2
              go_upto_region 20 with fail
              clear dm
              go_upto_region 21 with (first
                | (refine slb_h rfl rfl kk rfl rfl rfl (by omega) hsl ?_; intro q6 s6)
                | (go_at_call 28; refine (split_any _ _ _ s6 HBk.out HLk.out).mono ?_; rw [HX.out, hM]; rintro e V6 ⟨v6, vs6, rfl, hL6, hb6⟩))
              obtain ⟨q7, cap7, g7, off7, e7, hc7, hm7, hp7, hg7, hr7⟩ := (hL6.bag.ls hL6.row).open
              rw [HML.out] at e7 hc7 hp7 hg7
              subst e7
              have hmm : ((m : Int) != (m : Int)) = false := by simp
              have hMM : ((M : Int) != (M : Int)) = false := by simp
              have HEv : Hid (∀ (j : Nat) (x : Value) (l : List Nat), vs6[j]? = some x → rs[j]? = some l → j < m → Sl V6 x l) := fun j x l h1 h2 h3 => (hL6.bag.own j x l h1 (by rw [List.getElem?_take_of_lt h3]; exact h2)).sl
              have HV6 : Hid (vs6.length = m) := by show _ = _; rw [hL6.bag.len, HML.out]
              have hb36 := ab_trans hbk hb6
              clear hL6 s6 hsl
              by_cases hm : m = 0
              · subst hm
                have hM0 : M = 0 := hm0 rfl
                subst hM0
                clear hp7 hg7 hr7 HEv hm0
                go_wp2_with fail
                go_loopw [109] (fun i wr' => i = .int .i64 0 ∧ wr' = V6) (fun _ _ => 0)
                case atStart => exact ⟨rfl, rfl⟩
                case round =>
                  obtain ⟨rfl, rfl⟩ := hrel
                  go_wp2_with fail
                  go_ret
                  exact ⟨rfl, ab_trans hb1 hb36⟩
              · obtain rfl := hp7 (by omega)
                try (obtain rfl := hpe (by omega))
                have dM := keep_cell hb6 (HRm.out (by omega) hre) (hge (by omega))
                have hmz : ((m : Int) == 0) = false := by simp; omega
                have hm1 : (0 : Int) < (m : Int) := by omega
                have hm2 : 0 < m := by omega
                have hmx : (m : Int) - 1 = ((m - 1 : Nat) : Int) := by omega
                have hmy : m - 1 < k := by omega
                clear hm0 HRm hre HFL HSF
                go_upto_region 23 with fail
                have hgW : g < W.heap.size := hg (by omega)
                obtain rfl := hp (by omega)
                have hgl7 := hg7 (by omega)
                clear hp hg hp7 hg7 hpe hge hmx dM
                go_wp2_with fail
                go_loopw [109] (fun i wr' => ∃ j : Nat, j ≤ m ∧ i = .int .i64 (j : Int) ∧ Below V6.heap.size V6 wr') (fun i _ => m - (intOf i).toNat)
                case atStart => exact ⟨0, by omega, rfl, Below.refl _ _⟩
                case round =>
                  obtain ⟨j, hj, rfl, hbj⟩ := hrel
                  by_cases cj : j = m
                  · subst cj
                    clear hr hE hr7 HEv
                    go_wp2_with fail
                    go_ret
                    exact ⟨rfl, ab_trans (ab_trans hb1 hb36) hbj⟩
                  · have hv6 := HV6.out
                    obtain ⟨x, hx⟩ : ∃ x, vs[j]? = some x := ⟨vs[j], List.getElem?_eq_getElem (by omega)⟩
                    obtain ⟨x6, hx6⟩ : ∃ x, vs6[j]? = some x := ⟨vs6[j], List.getElem?_eq_getElem (by omega)⟩
                    obtain ⟨l, hl⟩ : ∃ l, rs[j]? = some l := ⟨rs[j], List.getElem?_eq_getElem (by omega)⟩
                    have d := keep_cell (ab_trans (ab_trans hb1 hb36) hbj) (hr j x hx) hgW
                    have d6 := keep_cell hbj (hr7 j x6 hx6) hgl7
                    have s1 := (hE j x l hx hl).keep (ab_trans hb36 hbj)
                    have s2 := (HEv.out j x6 l hx6 hl (by omega)).keep hbj
                    have hji : (j : Int) < (m : Int) := by omega
                    have hjm : j < m := by omega
                    have hjk : j < k := by omega
                    clear hr hE hr7 HEv hx hx6 hl hv6
                    go_upto_region 26 with fail
                    have hgw1 : g < wr.heap.size := Nat.lt_of_lt_of_le hgW (ab_trans (ab_trans hb1 hb36) hbj).size
                    have hgw7 : g7 < wr.heap.size := Nat.lt_of_lt_of_le hgl7 hbj.size
                    have k1 := cls_cell d hgw1
                    have k2 := cls_cell d6 hgw7
                    have hc1 : ∀ y : Cls wr, (convert 22 9 x).run Try.prog y.val = .ok (.string (strB l)) y.val := fun y => sl_str (s1.keep y.prop)
                    have hc2 : ∀ y : Cls wr, (convert 22 9 x6).run Try.prog y.val = .ok (.string (strB l)) y.val := fun y => sl_str (s2.keep y.prop)
                    refine wp_region_below (by kernel_rfl) (by kernel_rfl) ?_
                    have HZ := cls_some wr
                    repeat (go_big_quiet_step (fail))
                    refine wpQuiet_nil ?_
                    rintro _ ⟨y, rfl⟩
                    obtain ⟨W9, hb9⟩ := y
                    dsimp only
                    clear k1 k2 hc1 hc2 HZ d d6 s1 s2 hgw1 hgw7
                    go_wp2_with fail
                    exact ⟨⟨j + 1, by omega, rfl, ab_trans hbj hb9⟩, by simp only [intOf]; omega⟩
            · have hmi : ¬ (m : Int) < (k : Int) := by omega
              clear HD hB2
              go_upto_region 20 with fail
              go_upto_region 21 with (first
                | (refine slb_h rfl rfl kk rfl rfl rfl (by omega) hsl ?_; intro q6 s6)
                | (go_at_call 28; refine (split_any _ _ _ s6 HBk.out HLk.out).mono ?_; rw [HX.out, hM]; rintro e V6 ⟨v6, vs6, rfl, hL6, hb6⟩))
              obtain ⟨q7, cap7, g7, off7, e7, hc7, hm7, hp7, hg7, hr7⟩ := (hL6.bag.ls hL6.row).open
              rw [HML.out] at e7 hc7 hp7 hg7
              subst e7
              have hmm : ((m : Int) != (m : Int)) = false := by simp
              have hMM : ((M : Int) != (M : Int)) = false := by simp
              have HEv : Hid (∀ (j : Nat) (x : Value) (l : List Nat), vs6[j]? = some x → rs[j]? = some l → j < m → Sl V6 x l) := fun j x l h1 h2 h3 => (hL6.bag.own j x l h1 (by rw [List.getElem?_take_of_lt h3]; exact h2)).sl
              have HV6 : Hid (vs6.length = m) := by show _ = _; rw [hL6.bag.len, HML.out]
              have hb36 := ab_trans hbk hb6
              clear hL6 s6 hsl
              by_cases hm : m = 0
              · subst hm
                have hM0 : M = 0 := hm0 rfl
                subst hM0
                clear hp7 hg7 hr7 HEv hm0
                go_wp2_with fail
                go_loopw [109] (fun i wr' => i = .int .i64 0 ∧ wr' = V6) (fun _ _ => 0)
                case atStart => exact ⟨rfl, rfl⟩
                case round =>
                  obtain ⟨rfl, rfl⟩ := hrel
                  go_wp2_with fail
                  go_ret
                  exact ⟨rfl, ab_trans hb1 hb36⟩
              · obtain rfl := hp7 (by omega)
                try (obtain rfl := hpe (by omega))
                have dM := keep_cell hb6 (HRm.out (by omega) hre) (hge (by omega))
                have hmz : ((m : Int) == 0) = false := by simp; omega
                have hm1 : (0 : Int) < (m : Int) := by omega
                have hm2 : 0 < m := by omega
                have hmx : (m : Int) - 1 = ((m - 1 : Nat) : Int) := by omega
                have hmy : m - 1 < k := by omega
                clear hm0 HRm hre HFL HSF
                go_upto_region 23 with fail
                have hgW : g < W.heap.size := hg (by omega)
                obtain rfl := hp (by omega)
                have hgl7 := hg7 (by omega)
                clear hp hg hp7 hg7 hpe hge hmx dM
                go_wp2_with fail
                go_loopw [109] (fun i wr' => ∃ j : Nat, j ≤ m ∧ i = .int .i64 (j : Int) ∧ Below V6.heap.size V6 wr') (fun i _ => m - (intOf i).toNat)
                case atStart => exact ⟨0, by omega, rfl, Below.refl _ _⟩
                case round =>
                  obtain ⟨j, hj, rfl, hbj⟩ := hrel
                  by_cases cj : j = m
                  · subst cj
                    clear hr hE hr7 HEv
                    go_wp2_with fail
                    go_ret
                    exact ⟨rfl, ab_trans (ab_trans hb1 hb36) hbj⟩
                  · have hv6 := HV6.out
                    obtain ⟨x, hx⟩ : ∃ x, vs[j]? = some x := ⟨vs[j], List.getElem?_eq_getElem (by omega)⟩
                    obtain ⟨x6, hx6⟩ : ∃ x, vs6[j]? = some x := ⟨vs6[j], List.getElem?_eq_getElem (by omega)⟩
                    obtain ⟨l, hl⟩ : ∃ l, rs[j]? = some l := ⟨rs[j], List.getElem?_eq_getElem (by omega)⟩
                    have d := keep_cell (ab_trans (ab_trans hb1 hb36) hbj) (hr j x hx) hgW
                    have d6 := keep_cell hbj (hr7 j x6 hx6) hgl7
                    have s1 := (hE j x l hx hl).keep (ab_trans hb36 hbj)
                    have s2 := (HEv.out j x6 l hx6 hl (by omega)).keep hbj
                    have hji : (j : Int) < (m : Int) := by omega
                    have hjm : j < m := by omega
                    have hjk : j < k := by omega
                    clear hr hE hr7 HEv hx hx6 hl hv6
                    go_upto_region 26 with fail
                    have hgw1 : g < wr.heap.size := Nat.lt_of_lt_of_le hgW (ab_trans (ab_trans hb1 hb36) hbj).size
                    have hgw7 : g7 < wr.heap.size := Nat.lt_of_lt_of_le hgl7 hbj.size
                    have k1 := cls_cell d hgw1
                    have k2 := cls_cell d6 hgw7
                    have hc1 : ∀ y : Cls wr, (convert 22 9 x).run Try.prog y.val = .ok (.string (strB l)) y.val := fun y => sl_str (s1.keep y.prop)
                    have hc2 : ∀ y : Cls wr, (convert 22 9 x6).run Try.prog y.val = .ok (.string (strB l)) y.val := fun y => sl_str (s2.keep y.prop)
                    refine wp_region_below (by kernel_rfl) (by kernel_rfl) ?_
                    have HZ := cls_some wr
                    repeat (go_big_quiet_step (fail))
                    refine wpQuiet_nil ?_
                    rintro _ ⟨y, rfl⟩
                    obtain ⟨W9, hb9⟩ := y
                    dsimp only
                    clear k1 k2 hc1 hc2 HZ d d6 s1 s2 hgw1 hgw7
                    go_wp2_with fail
                    exact ⟨⟨j + 1, by omega, rfl, ab_trans hbj hb9⟩, by simp only [intOf]; omega⟩
      · obtain ⟨x, hx⟩ : ∃ x, vs[k]? = some x := ⟨vs[k], List.getElem?_eq_getElem (by omega)⟩
        obtain ⟨l, hl⟩ : ∃ l, rs[k]? = some l := ⟨rs[k], List.getElem?_eq_getElem (by omega)⟩
        obtain rfl := hp (by omega)
        have hgV := hg (by omega)
        have d := ((hb1.trans (hbk.mono hb1.size)).cell (p := ⟨g, off + k, none⟩) hgV).trans (hr k x hx)
        have hsx := (hE k x l hx hl).keep hbk
        have hBl := B0 l (List.mem_of_getElem? hl)
        obtain ⟨q2, cap2, e2, -⟩ := id hsx
        subst e2
        have hki : (k : Int) < (n : Int) := by omega
        have hkn : k < n := by omega
        have HF1 : Hid ([l].flatten = l) := flat1l l
        have HA1 : Hid (∀ m ∈ [l], Byt m) := all1 hBl
        have HFT : Hid (frms (rs.take (k + 1)) = frms (rs.take k) ++ frm l) := frms_take rs k l hl
        have HST := spN_take rs k l hl
        have HST' : Hid (spN (rs.take (k + 1)) = spN (rs.take k) + (8 + l.length)) := HST
        have hs1 := HSF.out (k + 1)
        have hs0 := HSF.out k
        have HFk : Hid ((frms (rs.take k)).length = spN (rs.take k)) := HFL.out k
        have HEE : Hid (ends rs (k + 1) = ends rs k ++ [((spN (rs.take (k + 1)) : Nat) : Int)]) := rfl
        have HM : Hid (∀ m ∈ rs.take (k + 1), l.length ≤ 16376 → m.length ≤ 16376) := by
          intro m hm2 hl16
          rw [List.take_add_one, hl, Option.toList_some] at hm2
          rcases List.mem_append.1 hm2 with h | h
          · exact H16 m h
          · simp at h; subst h; exact hl16
        have HL1 : Hid (∀ m ∈ [l], m.length ≤ 100000) := by intro m hm2; simp at hm2; subst hm2; show _ ≤ _; omega
        clear hx hl H16 HST
        generalize hnl : l.length = nl at *
        generalize hA : spN (rs.take k) = A at *
        generalize hA1 : spN (rs.take (k + 1)) = A1 at *
        by_cases hbig : 16376 < nl
        · have h77 := eq77
          have h70 := ne70
          go_wp2_with (first
            | (refine bs_ls rfl rfl [_] [l] (by simp only [List.map_toArray, List.map_cons, List.map_nil]; rfl) (bsl1 _ _ _ _) rfl (by decide) rfl (each1 hsx) ?_; intro V6 hls6 hb6 hbk6)
            | (go_at_call 21; refine (wrap_no _ _ _ _ hls6 HL1.out (by rw [HF1.out, hnl]; exact hbig)).mono ?_; rintro e V7 ⟨rfl, hb7⟩))
          go_ret
          exact ⟨ret_bool (decide_eq_true (by omega)), ab_trans hb1 (ab_trans hbk (ab_trans hb6 hb7))⟩
        · have h00 := ne00
          go_upto_region 13 with (first
            | (refine bs_ls rfl rfl [_] [l] (by simp only [List.map_toArray, List.map_cons, List.map_nil]; rfl) (bsl1 _ _ _ _) rfl (by decide) rfl (each1 hsx) ?_; intro V6 hls6 hb6 hbk6)
            | (go_at_call 21; refine (wrap_ok _ _ _ _ hls6 HA1.out (by rw [HF1.out, hnl]; omega)).mono ?_; rw [HF1.out]; rintro e V7 ⟨v7, rfl, HO7, hn7, hb7⟩))
          have hb67 := ab_trans hb6 hb7
          have HOa := HO.keep hb67
          have HEa := HE.keep hb67
          have hb37 := ab_trans hbk hb67
          have HFrl : Hid ((frm l).length = 8 + nl) := by show _ = _; rw [frm_len, hnl]
          clear HO HE hls6 hbk6 hb6 hb7
          go_upto_region 14 with (at_builtin; refine app_by _ rfl rfl rfl HOa rfl HO7.sl HFrl.out (by rw [HFk.out]; omega) hb37 ?_; intro v8 V8 hown8 hnil8 hb8 hgr8 hat8)
          have HO8 := ow_of hown8
          rw [← HFT.out] at HO8
          have HE8 := HEa.kept hgr8 HSep.symm
          have hSep8 := (sep_at HSep.symm (fun k hk => (HEa.lt k hk).2) hat8).symm
          obtain ⟨q8, cap8, e8⟩ := HO8.form
          rw [HFL.out (k + 1), hA1] at e8
          subst e8
          have HEL : Hid ((ends rs k).length + 1 ≤ 1000000) := by show _ ≤ _; rw [ends_len]; omega
          clear hown8 hnil8 hgr8 hat8 HOa HEa
          go_wp2_with (first
            | (refine bs_own rfl rfl [((A1 : Nat) : Int)] (by simp only [List.map_toArray, List.map_cons, List.map_nil]; rfl) (isl1 _ _) rfl (by decide) ?_; intro V9 hN9 hb9 z9)
            | (at_builtin; refine app_i _ rfl rfl rfl (HE8.keep hb9) rfl (own_is hN9) rfl HEL.out (ab_trans hb8 hb9) ?_; intro v10 V10 hown10 hnil10 hb10 hgr10 hat10))
          have HO9 := HO8.keep hb9
          refine ⟨⟨k + 1, by omega, rfl, HO9.kept hgr10 hSep8, ?_, sep_at hSep8 (fun k hk => (HO9.lt k hk).2) hat10, fun m hm2 => HM.out m hm2 (by omega), hb10⟩, by simp only [intOf]; omega⟩
          rw [HEE.out]
          exact io_of hown10

theorem own : ownKnob Try.prog.godebug = none := by kernel_rfl
theorem laidOut : laidOutB Try.prog = true := by kernel_rfl

set_option maxRecDepth 100000 in
theorem lifted (os : Os) (started : os.Started) (H : Type) (enc : TypeId × Value → H) :
    ReturnsInHanded {} Try.checked os 8 .any (Rows.frameCutsSpec.pre6 enc Try.prog Try.f8 Rows.frameCutsRow.domain false) (Rows.frameCutsSpec.post enc Try.prog Try.f8 false true false false) := by
  refine returnsInHanded_of_change (C := Try.checked) own started (by kernel_rfl) Try.func8
    (ChangeSpec.witness6 (enc := enc) (C := Try.checked) false ⟨#[], #[.slice none 0 0, .int .i64 0], []⟩ 8 (by kernel_rfl) (by kernel_rfl) (by kernel_rfl) (by kernel_rfl)) ?_
  intro W base args ds gs before hval0 hW hcnd _
  have hval : ∀ (j : Nat) t v, Try.f8.params[j]? = some t → args[j]? = some v → Value.okWide Try.prog W .any base t v := hval0
  have hW' := hW
  obtain ⟨p, q, hA0, hV, rfl, hfz, hnd⟩ := hW
  have hA : DataW.TrodAll enc Try.prog W 0 (fun _ => true) true Try.f8.params.toList args.toList ds p := hA0
  rw [Try.params8] at hA hval
  obtain ⟨v0, vs0, d0, ds0, p0, q0, hargs, rfl, rfl, h0, r0⟩ := trodAll_cons hA
  obtain ⟨v1, vs1, d1, ds1, p1, q1, rfl, rfl, rfl, h1, r1⟩ := trodAll_cons r0
  obtain ⟨rfl, rfl, rfl⟩ := trodAll_nil r1
  obtain rfl : args = #[v0, v1] := by cases args; simp_all
  obtain ⟨rfl, rfl⟩ := trodVars_none hV
  have k0 := h0
  have lt0 : ∀ x ∈ p0, x.block < W.heap.size := by obtain ⟨m, hm⟩ := k0; exact DataW.trod_lt m _ _ _ hm
  have k1 := h1
  have lt1 : ∀ x ∈ p1, x.block < W.heap.size := by obtain ⟨m, hm⟩ := k1; exact DataW.trod_lt m _ _ _ hm
  obtain ⟨vs0_, ls0_, S0_, B0_⟩ := open_lists (hval 0 32 v0 rfl rfl) h0
  obtain ⟨a1, rfl, rfl, rfl, w1⟩ := open_int Try.underlying3 (hval 1 3 v1 rfl rfl) h1
  clear hA0 hval0
  refine (walk v0 vs0_ ls0_ S0_ B0_ a1 (bounds_i64 w1)).mono fun e W' ⟨he, bel⟩ => ?_
  subst he
  exact ⟨_, rfl, _, _, _, [], _, [], hW', trodAll_mk1 (shut_bool Try.underlying4 _), (trodAll_cons_mk (Below.trod laidOut (by kernel_rfl) (of_decide_eq_true (by kernel_rfl)) k0 bel lt0) (trodAll_cons_mk (Below.trod laidOut (by kernel_rfl) (of_decide_eq_true (by kernel_rfl)) k1 bel lt1) trodAll_mk0)), rfl, bel.frame _, fun h => by cases h⟩

theorem over : Rows.frameCutsRow.holds Try.pinned (OpenSpec.ofChange Rows.frameCutsSpec) :=
  OpenClaim.holds_of_wide 8 Try.f8 rfl rfl rfl rfl rfl rfl rfl ⟨rfl, rfl, rfl, rfl, rfl⟩ rfl rfl rfl rfl rfl (by kernel_rfl) Try.func8 (by kernel_rfl)
    (of_decide_eq_true (by kernel_rfl)) (by unfold Func.isWrapper; first | (rw [if_pos (by decide +kernel)]; kernel_rfl) | (rw [if_neg (by decide +kernel)]; exact ⟨rfl, rfl⟩))
    (fun os started H enc _ => lifted os started H enc)

theorem proved : Rows.FrameCutsSaid := over
end Go.Proofs.Ytgimkaklocmhkaa.frameCuts
namespace Go.Proofs.Ytgimkaklocmhkaa
theorem frameCuts_holds : Rows.FrameCutsSaid := frameCuts.proved
#print axioms frameCuts_holds
end Go.Proofs.Ytgimkaklocmhkaa
