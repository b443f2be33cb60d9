/-
  Which node is what: estuarylaw19.PlanRoles returns true for every input; no condition.
-/
import Derived.Test.YtnooedipanhkjaaPnH
import Derived.Test.YtnooedipanhkjaaFrL
import Derived.Test.YtnooedipanhkjaaMixed
import Derived.ProofKit
import Derived.OpenShut
import Derived.ChangeOld
import Derived.Below
namespace Go.Proofs.Ytnooedipanhkjaa.planRoles
open Go.ChangeShapes Go.WideShapes Go.ChangeAt Go.RowKit Go.Joins
set_option linter.unusedVariables false
set_option maxRecDepth 100000

theorem nd_out {s : Int × Int} {i : Int} (h : i < 0 ∨ s.2 ≤ i) : ndF s i = (0, false) := by unfold ndF; rw [if_neg (by omega)]
theorem nd_in {s : Int × Int} {i : Int} (h0 : 0 ≤ i) (h1 : i < s.2) : ndF s i = (s.1 + i, true) := by unfold ndF; rw [if_pos ⟨h0, h1⟩]
theorem cn_snoc (x y : Int) (l : List Int) : cnI x (l ++ [y]) = cnI x l + (if y = x then 1 else 0) := by
  unfold cnI
  rw [List.filter_append, List.length_append]
  by_cases c : y = x <;> simp [c]
theorem cn_le (x : Int) (l : List Int) : cnI x l ≤ l.length := List.length_filter_le _ _
set_option maxHeartbeats 16000000 in
theorem nodes_any (p : Pn) (r i nd : Int) (W : World) (hv : Is W p.v p.l) (k0 : -9223372036854775808 ≤ nd) (k1 : nd ≤ 9223372036854775807) :
    Calls Try.prog 15 #[pnV p, .int .i64 r, .int .i64 i, .int .i64 nd] W fun e w' => e = .returned (.bool true) ∧ Below W.heap.size W w' := by
  have HOf := fun (V : World) (hV : Below W.heap.size W V) => rof_any p r V (hv.keep hV)
  have HNo := fun (V : World) (hV : Below W.heap.size W V) => pnode_any p r i V (hv.keep hV)
  have HRo := fun (V : World) (hV : Below W.heap.size W V) => rroles_any p V (hv.keep hV)
  have HRl := fun (V : World) (hV : Below W.heap.size W V) => prole_any p nd V (hv.keep hV) k0 k1
  have HPo := fun (V : World) (hV : Below W.heap.size W V) => pof_any p r V (hv.keep hV)
  have hrlen := ro_len p
  have hin := rl_in p
  have hout := rl_out p nd
  have holen := of_len p r
  have hoat := of_at p r
  have hsp := sp_bd p r
  rw [ix_of] at HOf
  generalize spF (pnS p) (pnT p) (pnK p) (pnI p) r = SP at *
  generalize roL p = RO at *
  generalize ofL p r = L at *
  obtain ⟨q, cap, ev⟩ := hv.form
  obtain ⟨A, hAe, hX, hw⟩ := blk1 W (pnC p) 24
  obtain ⟨n, hn⟩ : ∃ n, p.l.length = n := ⟨_, rfl⟩
  obtain ⟨ln, hln⟩ : ∃ n, L.length = n := ⟨_, rfl⟩
  obtain ⟨rn, hrn⟩ : ∃ n, RO.length = n := ⟨_, rfl⟩
  have hl5 : ln ≤ 5 := by omega
  have hr12 : rn ≤ 12 := by omega
  have hlsp : (ln : Int) = SP.2 := by omega
  have HV := hv
  clear hsp holen
  go_enter Try.func15, Try.ntmps15
  go_upto_region 1 with fail
  clear hAe
  go_upto_region 3 with (go_at_call 8; refine (alive19_any _).mono ?_; rintro e W1 ⟨rfl, b1⟩)
  have hX1 := hX.keep b1
  have hw1 := ab_trans hw b1
  have x2 : W1.cell? ⟨W.heap.size, 2, none⟩ = some p.v := hX1.at rfl
  rw [ev, hn] at x2
  clear hX hw b1
  by_cases c : (1000 : Int) < (n : Int)
  · clear HOf HNo HRo HRl HPo
    go_wp2_with fail
    go_ret
    exact ⟨rfl, hw1⟩
  go_upto_region 6 with (first
    | (refine lw_pn (p := p) rfl rfl rfl hX1 ?_)
    | (go_at_call 23; refine (HOf _ hw1).mono ?_; rintro e W2 ⟨v2, rfl, hL2, b2⟩))
  obtain ⟨q2, c2, e2⟩ := hL2.is.form
  rw [hln] at e2
  subst e2
  have hX2 := hX1.keep b2
  have hw2 := ab_trans hw1 b2
  clear hX1 hw1 b2 x2 HOf
  go_upto_region 7 with (first
    | (refine lw_pn (p := p) rfl rfl rfl hX2 ?_)
    | (go_at_call 18; refine (HNo _ hw2).mono ?_; rintro e W3 ⟨rfl, b3⟩))
  have hX3 := hX2.keep b3
  have hw3 := ab_trans hw2 b3
  have hL3 := hL2.keep b3
  clear hX2 hw2 b3 HNo hL2
  rcases (show (i < 0 ∨ (ln : Int) ≤ i) ∨ ∃ k : Nat, i = (k : Int) ∧ k < ln by
    by_cases h : i < 0 ∨ (ln : Int) ≤ i
    · exact .inl h
    · exact .inr ⟨i.toNat, by omega, by omega⟩) with hi | ⟨k, rfl, hk⟩
  · rw [nd_out (s := SP) (i := i) (by omega)]
    rcases (show i < 0 ∨ ¬ i < 0 by omega) with hi1 | hi1
    all_goals
      go_upto_region 12 with fail
      go_upto_region 13 with (first
        | (refine lw_pn (p := p) rfl rfl rfl hX3 ?_)
        | (go_at_call 13; refine (HRo _ hw3).mono ?_; rintro e W4 ⟨v4, rfl, hR4, b4⟩))
      obtain ⟨q4, c4, e4⟩ := hR4.is.form
      rw [hrn] at e4
      subst e4
      have hX4 := hX3.keep b4
      have hw4 := ab_trans hw3 b4
      have hL4 := hL3.keep b4
      go_upto_region 14 with (first
        | (refine lw_pn (p := p) rfl rfl rfl hX4 ?_)
        | (go_at_call 17; refine (HRl _ hw4).mono ?_; rintro e W5 ⟨rfl, b5⟩))
      have hX5 := hX4.keep b5
      have hw5 := ab_trans hw4 b5
      have hL5 := hL4.keep b5
      have hR5 := hR4.keep b5
      clear hX3 hw3 hL3 b4 hR4 hX4 hw4 hL4 b5 HRo HRl
      rcases (show (nd < 0 ∨ (rn : Int) ≤ nd) ∨ ∃ m : Nat, nd = (m : Int) ∧ m < rn by
        by_cases h : nd < 0 ∨ (rn : Int) ≤ nd
        · exact .inl h
        · exact .inr ⟨nd.toNat, by omega, by omega⟩) with hm | ⟨m, rfl, hm⟩
      · rw [hout (by omega)]
        rcases (show nd < 0 ∨ ¬ nd < 0 by omega) with hm1 | hm1
        all_goals
          go_wp2_with (first
            | (refine lw_pn (p := p) rfl rfl rfl hX5 ?_)
            | (go_at_call 16; refine (HPo _ hw5).mono ?_; rintro e W6 ⟨v6, rfl, hL6, b6⟩)
            | (go_at_call 14; refine (gints_any _ _ L L _ hL6.is (hL5.is.keep b6) (by omega) (by omega)).mono ?_; rintro e W7 ⟨rfl, b7⟩; rw [decide_eq_true (rfl : L = L)]))
          go_ret
          exact ⟨rfl, ab_trans hw5 (ab_trans b6 b7)⟩
      · rw [hin m (by omega)]
        obtain ⟨x, hx⟩ : ∃ x, RO[m]? = some x := ⟨RO[m], List.getElem?_eq_getElem (by omega)⟩
        have hgx : RO.getD m 0 = x := by rw [List.getD_eq_getElem?_getD, hx]; rfl
        rw [hgx]
        have hmi : (m : Int) < (rn : Int) := by omega
        have hm12 : m ≤ 12 := by omega
        have hRi := hR5.is
        have hcn : cnI x (RO.take m) ≤ 12 := by have := cn_le x (RO.take m); rw [List.length_take] at this; omega
        obtain ⟨C, hC⟩ : ∃ C, cnI x (RO.take m) = C := ⟨_, rfl⟩
        rw [hC] at hcn ⊢
        obtain ⟨gx, ox, eqx, hgx2, hrx⟩ := hRi.at (by omega)
        subst eqx
        have yx := hrx m x hx
        have hst : Is W5 (.slice (some ⟨gx, ox, none⟩) rn c4) RO := hRi
        clear hrx hgx
        go_upto_region 18 with (refine sli_h W5 rfl rfl (j := m) rfl rfl rfl (by omega) hst ?_; intro q6 hs6)
        have hlm : (RO.take m).length = m := by rw [List.length_take]; omega
        go_wp2_with fail
        go_loopw [16, 96] (fun b j wr => wr = W5 ∧ ∃ k : Nat, k ≤ m ∧ j = .int .i64 (k : Int) ∧ b = .int .i64 ((cnI x (RO.take k) : Nat) : Int)) (fun _ j _ => m - (intOf j).toNat)
        case atStart => exact ⟨rfl, 0, by omega, rfl, rfl⟩
        case round =>
          obtain ⟨rfl, k', hk', rfl, rfl⟩ := hrel
          by_cases c : k' = m
          · subst c
            rw [hC]
            have hee : (x == x) = true := by simp
            have hee2 : ((C : Int) == (C : Int)) = true := by simp
            go_wp2_with (first
              | (refine lw_pn (p := p) rfl rfl rfl hX5 ?_)
              | (go_at_call 16; refine (HPo _ hw5).mono ?_; rintro e W6 ⟨v6, rfl, hL6, b6⟩)
              | (go_at_call 14; refine (gints_any _ _ L L _ hL6.is (hL5.is.keep b6) (by omega) (by omega)).mono ?_; rintro e W7 ⟨rfl, b7⟩; rw [decide_eq_true (rfl : L = L)]))
            go_ret
            exact ⟨rfl, ab_trans hw5 (ab_trans b6 b7)⟩
          · obtain ⟨y, hy⟩ : ∃ y, RO[k']? = some y := ⟨RO[k'], List.getElem?_eq_getElem (by omega)⟩
            obtain ⟨g6, o6, eq6, hg6, hr6⟩ := hs6.at (by omega)
            subst eq6
            have y6 := hr6 k' y (by rw [List.getElem?_take_of_lt (by omega)]; exact hy)
            have hki' : (k' : Int) < (m : Int) := by omega
            have hcb : cnI x (RO.take k') ≤ 12 := by have := cn_le x (RO.take k'); rw [List.length_take] at this; omega
            have HS : Hid (cnI x (RO.take (k' + 1)) = cnI x (RO.take k') + (if y = x then 1 else 0)) := by
              show _ = _
              rw [List.take_add_one, hy, Option.toList_some, cn_snoc]
            clear hr6 hy
            generalize cnI x (RO.take k') = C' at *
            by_cases e : y = x
            · subst e
              have hee : (y == y) = true := by simp
              have HS2 : Hid (cnI y (RO.take (k' + 1)) = C' + 1) := by show _ = _; rw [HS.out, if_pos rfl]
              clear HS
              go_wp2_with fail
              go_roundw
              case rel => exact ⟨trivial, k' + 1, by omega, by go_num, by rw [HS2.out]; go_num⟩
              case measure => simp [intOf]; omega
            · have hee : (y == x) = false := by simpa using e
              have HS2 : Hid (cnI x (RO.take (k' + 1)) = C') := by show _ = _; rw [HS.out, if_neg e, Nat.add_zero]
              clear HS
              go_wp2_with fail
              go_roundw
              case rel => exact ⟨trivial, k' + 1, by omega, by go_num, by rw [HS2.out]⟩
              case measure => simp [intOf]; omega
  · rw [nd_in (s := SP) (i := (k : Int)) (by omega) (by omega)]
    have hat := hoat k (by omega)
    obtain ⟨g, off, rfl, hg, hr⟩ := hL3.is.at (by omega)
    have y0 := hr k _ hat
    have hki : (k : Int) < (ln : Int) := by omega
    have hee : (SP.1 + (k : Int) != SP.1 + (k : Int)) = false := by simp
    clear hr hat hg
    generalize SP.1 + (k : Int) = nn at *
    go_upto_region 12 with fail
    clear y0 hki hee
    go_upto_region 13 with (first
      | (refine lw_pn (p := p) rfl rfl rfl hX3 ?_)
      | (go_at_call 13; refine (HRo _ hw3).mono ?_; rintro e W4 ⟨v4, rfl, hR4, b4⟩))
    obtain ⟨q4, c4, e4⟩ := hR4.is.form
    rw [hrn] at e4
    subst e4
    have hX4 := hX3.keep b4
    have hw4 := ab_trans hw3 b4
    have hL4 := hL3.keep b4
    go_upto_region 14 with (first
      | (refine lw_pn (p := p) rfl rfl rfl hX4 ?_)
      | (go_at_call 17; refine (HRl _ hw4).mono ?_; rintro e W5 ⟨rfl, b5⟩))
    have hX5 := hX4.keep b5
    have hw5 := ab_trans hw4 b5
    have hL5 := hL4.keep b5
    have hR5 := hR4.keep b5
    clear hX3 hw3 hL3 b4 hR4 hX4 hw4 hL4 b5 HRo HRl
    rcases (show (nd < 0 ∨ (rn : Int) ≤ nd) ∨ ∃ m : Nat, nd = (m : Int) ∧ m < rn by
      by_cases h : nd < 0 ∨ (rn : Int) ≤ nd
      · exact .inl h
      · exact .inr ⟨nd.toNat, by omega, by omega⟩) with hm | ⟨m, rfl, hm⟩
    · rw [hout (by omega)]
      rcases (show nd < 0 ∨ ¬ nd < 0 by omega) with hm1 | hm1
      all_goals
        go_wp2_with (first
          | (refine lw_pn (p := p) rfl rfl rfl hX5 ?_)
          | (go_at_call 16; refine (HPo _ hw5).mono ?_; rintro e W6 ⟨v6, rfl, hL6, b6⟩)
          | (go_at_call 14; refine (gints_any _ _ L L _ hL6.is (hL5.is.keep b6) (by omega) (by omega)).mono ?_; rintro e W7 ⟨rfl, b7⟩; rw [decide_eq_true (rfl : L = L)]))
        go_ret
        exact ⟨rfl, ab_trans hw5 (ab_trans b6 b7)⟩
    · rw [hin m (by omega)]
      obtain ⟨x, hx⟩ : ∃ x, RO[m]? = some x := ⟨RO[m], List.getElem?_eq_getElem (by omega)⟩
      have hgx : RO.getD m 0 = x := by rw [List.getD_eq_getElem?_getD, hx]; rfl
      rw [hgx]
      have hmi : (m : Int) < (rn : Int) := by omega
      have hm12 : m ≤ 12 := by omega
      have hRi := hR5.is
      have hcn : cnI x (RO.take m) ≤ 12 := by have := cn_le x (RO.take m); rw [List.length_take] at this; omega
      obtain ⟨C, hC⟩ : ∃ C, cnI x (RO.take m) = C := ⟨_, rfl⟩
      rw [hC] at hcn ⊢
      obtain ⟨gx, ox, eqx, hgx2, hrx⟩ := hRi.at (by omega)
      subst eqx
      have yx := hrx m x hx
      have hst : Is W5 (.slice (some ⟨gx, ox, none⟩) rn c4) RO := hRi
      clear hrx hgx
      go_upto_region 18 with (refine sli_h W5 rfl rfl (j := m) rfl rfl rfl (by omega) hst ?_; intro q6 hs6)
      have hlm : (RO.take m).length = m := by rw [List.length_take]; omega
      go_wp2_with fail
      go_loopw [16, 96] (fun b j wr => wr = W5 ∧ ∃ k : Nat, k ≤ m ∧ j = .int .i64 (k : Int) ∧ b = .int .i64 ((cnI x (RO.take k) : Nat) : Int)) (fun _ j _ => m - (intOf j).toNat)
      case atStart => exact ⟨rfl, 0, by omega, rfl, rfl⟩
      case round =>
        obtain ⟨rfl, k', hk', rfl, rfl⟩ := hrel
        by_cases c : k' = m
        · subst c
          rw [hC]
          have hee : (x == x) = true := by simp
          have hee2 : ((C : Int) == (C : Int)) = true := by simp
          go_wp2_with (first
            | (refine lw_pn (p := p) rfl rfl rfl hX5 ?_)
            | (go_at_call 16; refine (HPo _ hw5).mono ?_; rintro e W6 ⟨v6, rfl, hL6, b6⟩)
            | (go_at_call 14; refine (gints_any _ _ L L _ hL6.is (hL5.is.keep b6) (by omega) (by omega)).mono ?_; rintro e W7 ⟨rfl, b7⟩; rw [decide_eq_true (rfl : L = L)]))
          go_ret
          exact ⟨rfl, ab_trans hw5 (ab_trans b6 b7)⟩
        · obtain ⟨y, hy⟩ : ∃ y, RO[k']? = some y := ⟨RO[k'], List.getElem?_eq_getElem (by omega)⟩
          obtain ⟨g6, o6, eq6, hg6, hr6⟩ := hs6.at (by omega)
          subst eq6
          have y6 := hr6 k' y (by rw [List.getElem?_take_of_lt (by omega)]; exact hy)
          have hki' : (k' : Int) < (m : Int) := by omega
          have hcb : cnI x (RO.take k') ≤ 12 := by have := cn_le x (RO.take k'); rw [List.length_take] at this; omega
          have HS : Hid (cnI x (RO.take (k' + 1)) = cnI x (RO.take k') + (if y = x then 1 else 0)) := by
            show _ = _
            rw [List.take_add_one, hy, Option.toList_some, cn_snoc]
          clear hr6 hy
          generalize cnI x (RO.take k') = C' at *
          by_cases e : y = x
          · subst e
            have hee : (y == y) = true := by simp
            have HS2 : Hid (cnI y (RO.take (k' + 1)) = C' + 1) := by show _ = _; rw [HS.out, if_pos rfl]
            clear HS
            go_wp2_with fail
            go_roundw
            case rel => exact ⟨trivial, k' + 1, by omega, by go_num, by rw [HS2.out]; go_num⟩
            case measure => simp [intOf]; omega
          · have hee : (y == x) = false := by simpa using e
            have HS2 : Hid (cnI x (RO.take (k' + 1)) = C') := by show _ = _; rw [HS.out, if_neg e, Nat.add_zero]
            clear HS
            go_wp2_with fail
            go_roundw
            case rel => exact ⟨trivial, k' + 1, by omega, by go_num, by rw [HS2.out]⟩
            case measure => simp [intOf]; omega
end Go.Proofs.Ytnooedipanhkjaa.planRoles
