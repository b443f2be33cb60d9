/-
  In whatever parts a stream is fed the cells are those of its samples, all of them: estuarylaw16.BasinParts returns true for every input; no condition.
-/
import Derived.Test.YtfnageillhpjpaaPk52
import Derived.Test.YtfnageillhpjpaaPk09
import Derived.ProofKit
import Derived.OpenShut
import Derived.ChangeOld
import Derived.Below
namespace Go.Proofs.Ytfnageillhpjpaa.basinParts
open Go.ChangeShapes Go.WideShapes Go.ChangeAt Go.RowKit Go.Joins Go.Maps
set_option linter.unusedVariables false
set_option maxRecDepth 100000

theorem ne00 (w : World) : (binOp .neq 32 .nilIface .nilIface).run Try.prog w = .ok (.bool false) w := by kernel_rfl
theorem ne20 (w : World) : (binOp .neq 32 (Err 2) .nilIface).run Try.prog w = .ok (.bool true) w := by kernel_rfl
theorem q22 (w : World) : (binOp .eql 32 (Err 2) (Err 2)).run Try.prog w = .ok (.bool true) w := by kernel_rfl
set_option maxHeartbeats 8000000 in
theorem bp_in (v1 v2 v3 : Value) (l1 : List Op5) (l2 l3 : List Int) (w : World) (h1 : ER E5 w v1 l1) (hf : ∀ o ∈ l1, Fit5 o) (h2 : Is w v2 l2) (h3 : Is w v3 l3) (hr : ∀ r ∈ l3, r ≤ 9223372036854775807) (hn : l1.length ≤ 150) (hm : 1 ≤ l3.length ∧ l3.length ≤ 3) (hp : l2.length ≤ 100) :
    Calls Try.prog 3 #[v1, v2, v3] w fun e w' => e = .returned (.bool true) ∧ Below w.heap.size w w' := by
  have e00 := ne00
  have e20 := ne20
  have e22 := q22
  have hmm := @run_makeMap Try.prog
  have H3 : Hid (∀ V, Below w.heap.size w V → Is V v3 l3) := fun V hV => h3.keep hV
  have HF : Hid (∀ o ∈ l1, Fit5 o) := hf
  have HR : Hid (∀ r ∈ l3, r ≤ 9223372036854775807) := hr
  have HL : Hid (l1.length ≤ 150 ∧ l3.length ≤ 3) := ⟨hn, hm.2⟩
  obtain ⟨q1, c1, g1, o1, rfl, hc1, hm1, hp1, hr1⟩ := h1.at
  obtain ⟨q2, c2, g2, o2, e2, -, -, hq2, hg2, hr2⟩ := h2
  obtain ⟨q3, c3, e3⟩ := h3.form
  subst e2
  subst e3
  have HP2 : Hid (∀ V, Below w.heap.size w V → ∀ j x, l2[j]? = some x → V.cell? ⟨g2, o2 + j, none⟩ = some (.int .i64 x)) := fun V hV j x hx => keep_cell hV (hr2 j x hx) (hg2 (by have := (List.getElem?_eq_some_iff.1 hx).1; omega))
  clear h1 h3 hf hr hr2 hg2
  have HN1 : Hid (l1.length = l1.length) := rfl
  generalize hn1 : l1.length = n at *
  generalize hn2 : l2.length = p at *
  generalize hn3 : l3.length = m at *
  have d1 : ¬ (150 : Int) < (n : Int) := by omega
  have d2 : ¬ (m : Int) < 1 := by omega
  have d3 : ¬ (3 : Int) < (m : Int) := by omega
  have d4 : ¬ (100 : Int) < (p : Int) := by omega
  go_enter Try.func3, Try.ntmps3
  go_upto_region 5 with (go_at_call 4; refine (alive16_any _).mono ?_; rintro e W1 ⟨rfl, a1⟩)
  clear d1 d2 d3 d4
  go_upto_region 7 with (first
    | (refine bs_pl0 (E := E5) (e := 27) rfl rfl (by simp) (fun w => bs_op0B w) ?_; intro W2 hO2 b2)
    | (refine bs_pl0 (E := E6) (e := 29) rfl rfl (by simp) (fun w => bs_sm0B w) ?_; intro W3 hO3 b3))
  have hO2' := hO2.keep b3
  have hO3' : EO E6 29 W3 W1.heap.size (.slice (some ⟨W2.heap.size, 0, none⟩) 0 0) [] := own_less hO3 b2.size
  have b13 := ab_trans b2 b3
  have hwW1 : w.heap.size ≤ W1.heap.size := a1.size
  clear hO2 hO3 b2 b3
  go_wp2_with fail
  go_loopw [7, 8, 52] (fun vl vs z V => ∃ k : Nat, k ≤ n ∧ z = .int .i64 (k : Int) ∧ EO E5 27 V W1.heap.size vl (pO (l1.take k)) ∧ EO E6 29 V W1.heap.size vs (pS (pO (l1.take k))) ∧ Below W1.heap.size W1 V) (fun _ _ z _ => n - (intOf z).toNat)
  case atStart => exact ⟨0, by omega, rfl, hO2', hO3', b13⟩
  case round =>
    clear hO2' hO3' b13
    obtain ⟨k, hk, rfl, hOl, hOs, hb⟩ := hrel
    by_cases ck : k < n
    · obtain ⟨o, ho⟩ : ∃ o, l1[k]? = some o := ⟨l1[k]'(by omega), List.getElem?_eq_getElem (by omega)⟩
      have hfo := HF.out o (List.mem_of_getElem? ho)
      obtain ⟨rfl, hg1⟩ := hp1 (by omega)
      have hki : (k : Int) < (n : Int) := by omega
      have hk1 : (k : Int) ≤ 150 := by omega
      have hwr := ab_trans a1 hb
      have z0 := keep_cell hwr (hr1 k o ho 0 _ rfl) hg1
      have z1 := keep_cell hwr (hr1 k o ho 1 _ rfl) hg1
      have z2 := keep_cell hwr (hr1 k o ho 2 _ rfl) hg1
      have z3 := keep_cell hwr (hr1 k o ho 3 _ rfl) hg1
      have z4 := keep_cell hwr (hr1 k o ho 4 _ rfl) hg1
      rw [Nat.add_zero, show E5.k = 5 from rfl] at z0
      rw [show E5.k = 5 from rfl] at z1 z2 z3 z4
      have HPn : Hid (pO (l1.take (k + 1)) = pO (l1.take k) ++ [pOp k o]) := pO_snoc ho
      have HSn : Hid (pS (pO (l1.take (k + 1))) = pS (pO (l1.take k)) ++ (if (pOp k o).k = 1 then [smp (pOp k o)] else [])) := by have := pS_snoc (pO (l1.take k)) (pOp k o); rw [← pO_snoc ho] at this; exact this
      have hPl : (pO (l1.take k)).length ≤ 150 := by rw [pO_len, List.length_take]; omega
      have hSl : (pS (pO (l1.take k))).length ≤ 150 := Nat.le_trans (pS_len _) hPl
      generalize pS (pO (l1.take k)) = SS at *
      generalize pO (l1.take k) = P at *
      obtain ⟨os, ok, ot, oy, ov⟩ := o
      have hok : J64 ok := hfo.k
      unfold J64 at hok
      try dsimp only at z0 z1 z2 z3 z4
      clear ho hr1 hp1 hfo hwr
      have hW1r := hb.size
      go_upto_region 10 with (first
        | (refine al_blk rfl rfl (opA ⟨0, 0, 0, 0, 0⟩) (op_zeroB _) ?_; intro W4 e4 hX4 b4; clear e4)
        | (refine st_blk rfl rfl hX4 rfl (vs := opA ⟨os, ok, ot, oy, ov⟩) rfl (infoO5B ⟨os, ok, ot, oy, ov⟩) rfl (opA_oneB _) ?_; intro W5 hX5 C5))
      have b5 := ab_chg b4 C5 (Nat.le_refl _)
      clear hX4 C5 b4 z0 z1 z2 z3 z4
      go_upto_region 11 with (refine st_intB rfl rfl hX5 (i := 0) rfl rfl rfl ?_; intro W6 hX6 C6)
      have y1 : W6.cell? ⟨wr.heap.size, 1, none⟩ = some (.int .i64 ok) := hX6.at rfl
      have hm0 : 0 ≤ ok % 2 := by omega
      have hm1 : ok % 2 ≤ 1 := by omega
      go_upto_region 12 with (first
        | (refine valPlB rfl _ (and1_operB rfl rfl rfl _) ?_)
        | (refine st_intB rfl rfl hX6 (i := 1) rfl rfl rfl ?_; intro W7 hX7 C7))
      have hX8 : Blk W7 wr.heap.size (opA (pOp k ⟨os, ok, ot, oy, ov⟩)) 27 := hX7
      have b7 := ab_chg (ab_chg b5 C6 (Nat.le_refl _)) C7 (Nat.le_refl _)
      have hlt5 := fun g hg => (World.ownsRow.lt hOl g hg).2
      have hOl7 := hOl.keep b7
      have hOs7 := hOs.keep b7
      have hb7 := ab_trans hb b7
      have hwr7 : wr.heap.size < W7.heap.size := hX8.lt
      clear hX5 hX6 hX7 C6 C7 b5 b7 hOl hOs hb y1
      go_upto_region 13 with (first
        | (refine ld_blk rfl rfl hX8 rfl _ Try.underlying27 rfl (infoO5B (pOp k ⟨os, ok, ot, oy, ov⟩)) ?_)
        | (refine bs_opB rfl rfl (pOp k ⟨os, ok, ot, oy, ov⟩) (by simp only [List.map_toArray, List.map_cons, List.map_nil]; rfl) ?_; intro W8 hO8 b8)
        | (at_builtin; refine app_e (E := E5) W1 (want_none rfl) rfl Try.underlying22 infoOp5 rfl rfl (hOl7.keep b8) rfl hO8.er (by rw [List.length_singleton]; omega) (by rw [List.length_singleton]; omega) (ab_trans hb7 b8) ?_; intro v9 W9 hO9 hb9 hg9))
      have hX9 : Blk W9 wr.heap.size (opA (pOp k ⟨os, ok, ot, oy, ov⟩)) 27 := by
        unfold Blk
        rw [hg9.block _ (hX8.keep b8).lt (fun e => by have := hlt5 _ e.symm; omega)]
        exact hX8.keep b8
      have b89 := hb9
      have hOs9 := eo_keptB (hOs7.keep b8) (hOl7.keep b8) (by decide) hg9
      clear hX8 hOl7 hOs7 hO8 b8 hg9 b89 hb7
      by_cases kk : 1 + ok % 2 = 1
      · have y1 : W9.cell? ⟨wr.heap.size, 1, none⟩ = some (.int .i64 (1 + ok % 2)) := hX9.at rfl
        rw [kk] at y1
        have HS2 : Hid (pS (pO (l1.take (k + 1))) = SS ++ [smp (pOp k ⟨os, ok, ot, oy, ov⟩)]) := by have := HSn.out; rw [if_pos (show (pOp k ⟨os, ok, ot, oy, ov⟩).k = 1 from kk)] at this; exact this
        clear HSn
        go_upto_region 15 with (first
          | (refine ld_blk rfl rfl hX9 rfl _ Try.underlying27 rfl (infoO5B (pOp k ⟨os, ok, ot, oy, ov⟩)) ?_)
          | (refine valPlB rfl _ (bd_run rfl (built_smpB (pOp k ⟨os, ok, ot, oy, ov⟩)) (by simp only [List.map_toArray, List.map_cons, List.map_nil]; rfl) _) ?_)
          | (refine bs_smpB rfl rfl (smp (pOp k ⟨os, ok, ot, oy, ov⟩)) (by simp only [List.map_toArray, List.map_cons, List.map_nil]; rfl) ?_; intro W10 hO10 b10)
          | (at_builtin; refine app_e (E := E6) W1 (want_none rfl) rfl Try.underlying25 infoSm rfl rfl (hOs9.keep b10) rfl hO10.er (by rw [List.length_singleton]; omega) (by rw [List.length_singleton]; omega) (ab_trans hb9 b10) ?_; intro v11 W11 hO11 hb11 hg11))
        have hOl11 := eo_keptB (hO9.keep b10) (hOs9.keep b10) (by decide) hg11
        clear hX9 hO9 hOs9 b10 hg11 hb9 hO10
        go_wp2_with fail
        go_roundw
        case rel => exact ⟨k + 1, by omega, by go_num, by rw [HPn.out]; exact hOl11, by rw [HS2.out]; exact hO11, hb11⟩
        case measure => simp [intOf]; omega
      · have y1 : W9.cell? ⟨wr.heap.size, 1, none⟩ = some (.int .i64 (1 + ok % 2)) := hX9.at rfl
        have kk2 : 1 + ok % 2 = 2 := by omega
        rw [kk2] at y1
        have HS2 : Hid (pS (pO (l1.take (k + 1))) = SS) := by have := HSn.out; rw [if_neg (show ¬ (pOp k ⟨os, ok, ot, oy, ov⟩).k = 1 from kk), List.append_nil] at this; exact this
        clear HSn
        go_upto_region 15 with fail
        go_wp2_with fail
        go_roundw
        case rel => exact ⟨k + 1, by omega, by go_num, by rw [HPn.out]; exact hO9, by rw [HS2.out]; exact hOs9, hb9⟩
        case measure => simp [intOf]; omega
    · have ekn : n = k := by omega
      subst ekn
      rw [List.take_of_length_le (by omega)] at hOl hOs
      have hlo := fun g hg => (World.ownsRow.lt hOl g hg)
      have hls := fun g hg => (World.ownsRow.lt hOs g hg)
      obtain ⟨q7, c7, e7⟩ := hOl.form
      obtain ⟨q8, c8, e8⟩ := hOs.form
      rw [pO_len, hn1] at e7
      subst e7
      subst e8
      clear hr1 hp1 ck hk
      have hSl : (pS (pO l1)).length ≤ 150 := Nat.le_trans (pS_len _) (by rw [pO_len]; omega)
      generalize hns : (pS (pO l1)).length = ns at *
      have hwr := ab_trans a1 hb
      have hI3 := H3.out wr hwr
      cases hok : newOK ((2 : Nat) : Int) l3 2 1024
      · have HNw := banew_no ((2 : Nat) : Int) _ l3 2 1024 wr hI3 hok
        go_wp2_with (go_at_call 5; refine HNw.mono ?_; rintro e W4 ⟨rfl, rfl⟩)
        go_ret
        exact ⟨rfl, hwr⟩
      · have HNw := banew_ok 2 _ l3 2 1024 wr hI3 HR.out hok
        go_upto_region 17 with (go_at_call 5; refine HNw.mono ?_; rintro e W4 ⟨⟨K, rfl, hB4⟩, b4⟩)
        have hb4 := ab_trans hwr b4
        have hOl4 := hOl.keep b4
        have hOs4 := hOs.keep b4
        have hI0 := bp_start hok HR.out
        have hK4 : ∀ k, bkB K k → k < W4.heap.size := fun k hk => (hB4.bks hk).2
        have hKb : K.b < W4.heap.size := hB4.blk.lt
        have hKr : ∀ k, K.vr.ownBlock = some k → k < W4.heap.size := fun k hk => (hB4.re.lt k hk).2
        have hB0 : wr.heap.size ≤ W4.heap.size := b4.size
        have hK0 : ∀ k, bkB K k → wr.heap.size ≤ k := fun k hk => (hB4.bks hk).1
        have hwb0 := hwr.size
        have hb04 := hb.size
        clear hOl hOs hb b4 HNw hI3 hok hwr
        generalize wr.heap.size = b0 at *
        have hm6 : (2 : Int) * (m : Int) ≤ 6 := by omega
        have hm0 : (0 : Int) ≤ 2 * (m : Int) := by omega
        have h2m : Hid ((2 : Int) * (m : Int) = ((2 * m : Nat) : Int)) := by show _ = _; omega
        have hm3 : (m : Int) ≤ 3 := by omega
        go_upto_region 20 with (refine mk_e (E := E2) (want_none rfl) (0, 0) rfl Try.underlying36 infoPl2 (c := 2 * m) rfl rfl rfl h2m.out (by omega) (by omega) ?_; intro W5 hC5 b5)
        have hRw5 : Rw E2 38 W5 W4.heap.size (2 * m) (List.replicate 0 lstP ++ List.replicate (2 * m - 0) (0, 0)) := by
          refine ⟨by simp, by unfold maxLen; omega, _, hC5, ?_, ?_⟩
          · simp [En.fl_len]
          · rw [List.take_of_length_le (by simp [En.fl_len])]
            simp
        have hB5 := hB4.keep b5
        have hOl5 := hOl4.keep b5
        have hOs5 := hOs4.keep b5
        have hb5 := ab_trans hb4 b5
        have hB5s := b5.size
        clear hB4 hOl4 hOs4 hb4 hC5 b5
        generalize W4.heap.size = gc at *
        go_wp2_with fail
        go_loopw [95] (fun z V => ∃ k : Nat, k ≤ 2 * m ∧ z = .int .i64 (k : Int) ∧ Rw E2 38 V gc (2 * m) (List.replicate k lstP ++ List.replicate (2 * m - k) (0, 0)) ∧ Bq V b0 K (newBsn 2 l3 2 1024) ∧ EO E5 27 V W1.heap.size (.slice q7 n c7) (pO l1) ∧ EO E6 29 V W1.heap.size (.slice q8 ns c8) (pS (pO l1)) ∧ Below w.heap.size w V) (fun z _ => 2 * m - (intOf z).toNat)
        case atStart => exact ⟨0, by omega, rfl, hRw5, hB5, hOl5, hOs5, hb5⟩
        case round =>
          clear hRw5 hB5 hOl5 hOs5 hb5
          obtain ⟨k, hk, rfl, hRw, hB, hOl, hOs, hb⟩ := hrel
          have hgcs : gc < wr.heap.size := hRw.lt
          by_cases ck : k < 2 * m
          · have hki : (k : Int) < ((2 * m : Nat) : Int) := by omega
            have hki2 : (k : Int) < 2 * (m : Int) := by omega
            go_upto_region 24 with (first
              | (go_at_call 6; refine (rleast_any _).mono ?_; rintro e W6 ⟨rfl, b6⟩)
              | (refine st_plB rfl rfl (hRw.keep b6) (i := k) (by simp; omega) (-9223372036854775808, -9223372036854775808) rfl rfl rfl ?_; intro W7 hR7 C7))
            have hRn : Hid (Rw E2 38 W7 gc (2 * m) (List.replicate (k + 1) lstP ++ List.replicate (2 * m - (k + 1)) (0, 0))) := by
              have := hR7
              rw [show ((-9223372036854775808, -9223372036854775808) : Int × Int) = lstP from rfl, rep_set lstP (0, 0) ck] at this
              exact this
            have hBn := bq_chg (hB.keep b6) hK4 hKb hKr C7 (Nat.le_refl _)
            have hln := eo_chgP (hOl.keep b6) (hRw.keep b6) (by decide) C7
            have hsn := eo_chgP (hOs.keep b6) (hRw.keep b6) (by decide) C7
            have hbn := ab_chg (ab_trans hb b6) C7 (by omega)
            clear hRw hB hOl hOs hb b6 C7 hR7
            go_wp2_with fail
            go_roundw
            case rel => exact ⟨k + 1, by omega, by go_num, hRn.out, hBn, hln, hsn, hbn⟩
            case measure => simp [intOf]; omega
          · have ek : k = 2 * m := by omega
            subst ek
            have hki : ¬ ((2 * m : Nat) : Int) < ((2 * m : Nat) : Int) := by omega
            rw [Nat.sub_self, List.replicate_zero, List.append_nil] at hRw
            have hEC : ER E2 wr (.slice (some ⟨gc, 0, none⟩) (2 * m) (2 * m)) (List.replicate (2 * m) lstP) := by
              have := (hRw.eo (B := gc) (Nat.le_refl _) (i := 2 * m) (by simp)).er
              rwa [List.take_of_length_le (by simp)] at this
            have HO : Hid (∀ V, Frm (bkB K) wr V → ER E5 V (.slice q7 n c7) (pO l1) ∧ EO E6 29 V W1.heap.size (.slice q8 ns c8) (pS (pO l1)) ∧ ER E2 V (.slice (some ⟨gc, 0, none⟩) (2 * m) (2 * m)) (List.replicate (2 * m) lstP) ∧ Below w.heap.size w V) := fun V hV =>
              ⟨(eo_frmB hOl hV (fun k hk hx => by have := (hlo k hk).2; have := hK0 k hx; omega)).er, eo_frmB hOs hV (fun k hk hx => by have := (hls k hk).2; have := hK0 k hx; omega), hEC.frm hV (fun a n' c' e hx => by cases e; have h9 : gc < gc := hK4 _ hx; omega), hb.trans (hV.below hb.size (fun k hk => Nat.le_trans hwb0 (hK0 k hk)))⟩
            have hq7 := fun (h : 0 < (pO l1).length) => EO.at0 hOl h
            rw [pO_len, hn1] at hq7
            have hl7 : ∀ g, q7 = some ⟨g, 0, none⟩ → ¬ bkB K g := fun g hg hx => by
              have h1 := hlo g (by rw [hg]; rfl)
              have := hK0 g hx
              omega
            have hc7 : n ≤ c7 ∧ c7 ≤ 9223372036854775807 := by
              obtain ⟨q', c', g', o', e', h1, h2, -⟩ := hOl.er
              injection e' with _ _ e3
              rw [pO_len, hn1] at h1
              omega
            have hF0 := Frm.refl (bkB K) wr
            clear hRw hOl hOs hEC hb hlo hls hki hm0 hm6 h2m hm3
            go_wp2_with fail
            go_loopw [15, 16] (fun x y V => ∃ (n0 k0 : Nat) (S : Bsn), n0 ≤ n ∧ k0 ≤ n0 ∧ x = .int .i64 (n0 : Int) ∧ y = .int .i64 (k0 : Int) ∧ Bq V b0 K S ∧ BpI S l3 (takQ 1 2 l3 ((pO l1).take n0)) n0 ∧ Frm (bkB K) wr V) (fun x _ _ => n - (intOf x).toNat)
            case atStart => exact ⟨0, 0, newBsn 2 l3 2 1024, by omega, by omega, rfl, rfl, hB, hI0, hF0⟩
            case round =>
              clear hB hI0 hF0
              obtain ⟨n0, k0, S, hn0, hk0, rfl, rfl, hB, hI, hF⟩ := hrel
              by_cases c0 : n0 < n
              · have h0i : (n0 : Int) < (n : Int) := by omega
                have hk1 : (k0 : Int) ≤ 150 := by omega
                have hn1i : (n0 : Int) ≤ 150 := by omega
                by_cases cp : k0 < p
                · obtain ⟨x, hx⟩ : ∃ x, l2[k0]? = some x := ⟨l2[k0]'(by omega), List.getElem?_eq_getElem (by omega)⟩
                  have hpi : (k0 : Int) < (p : Int) := by omega
                  obtain ⟨rfl, -⟩ := hq2 (by omega)
                  have zx := HP2.out _ (HO.out _ hF).2.2.2 k0 x hx
                  obtain ⟨r9, hr9, e1⟩ := mod_natB x 9 (by omega) (by omega)
                  go_upto_region 32 with fail
                  have e4 : (1 : Int) + (r9 : Int) = ((r9 + 1 : Nat) : Int) := by omega
                  rw [e1, e4]
                  obtain ⟨d, hd⟩ : ∃ d, r9 + 1 = d := ⟨_, rfl⟩
                  rw [hd]
                  have d1 : 1 ≤ d := by omega
                  have d9 : (d : Int) ≤ 9 := by omega
                  clear e1 e4 hr9 hd zx hx
                  go_upto_region 33 with fail
                  obtain ⟨tt, htt⟩ : ∃ tt : Nat, min ((n0 : Int) + (d : Int)) (n : Int) = (tt : Int) := ⟨min (n0 + d) n, by omega⟩
                  rw [htt]
                  have t0 : n0 < tt := by omega
                  have t1 : tt ≤ n := by omega
                  obtain ⟨g7, cap7, e7⟩ := hq7 (by omega)
                  injection e7 with e71 e72 e73
                  subst e71
                  subst e73
                  clear e72
                  have hgk := hl7 g7 rfl
                  have hfd' := bp_feed (tn := tt) (cut := List.replicate (2 * m) lstP) hI HF.out (by rw [hn1]; exact HL.out.1) (by rw [hn3]; exact HL.out.2) t0 (by rw [hn1]; exact t1) (by rw [List.length_replicate, hn3]) (fun x hx => List.eq_of_mem_replicate hx)
                  obtain ⟨hfd, hte, hI2, hfit⟩ := hfd'
                  obtain ⟨f, hfl, hfx⟩ := hI.nx
                  have HC8 : Hid (∀ V, Frm (bkB K) wr V → V.cell? ⟨g7, (tt - 1) * 5, none⟩ = some (.int .i64 (2 * (tt : Int) - 1))) := fun V hV => by
                    obtain ⟨o, ho⟩ : ∃ o, (pO l1)[tt - 1]? = some o := ⟨_, List.getElem?_eq_getElem (by rw [pO_len, hn1]; omega)⟩
                    have h1 := er_cell5 (HO.out V (hF.trans hV)).1 ho (i := 0) rfl
                    rw [Nat.add_zero, (pO_form ho).1] at h1
                    rw [h1]
                    congr 2
                    omega
                  have HFd : Hid (∀ V, Below wr.heap.size wr V → ∃ o', sliced (some ⟨g7, 0, none⟩) n0 tt c7 5 = .slice (some ⟨g7, o', none⟩) (tt - n0) (c7 - n0) ∧ Calls Try.prog 7 #[bptr K, .int .i64 1, .int .i64 (nxP n0), .int .i64 (2 * (tt : Int) - 1), .slice (some ⟨gc, 0, none⟩) (2 * m) (2 * m), .slice (some ⟨g7, o', none⟩) (tt - n0) (c7 - n0)] V fun e w' => e = .returned .nilIface ∧ Bq w' b0 K (fdZ S 1 (2 * (tt : Int) - 1) (List.replicate (2 * m) lstP) (((pO l1).take tt).drop n0)) ∧ Frm (bkB K) V w') := fun V hV => by
                    have hFV := hF.trans (frm_below hV)
                    obtain ⟨h1, -, h2, -⟩ := HO.out V hFV
                    obtain ⟨o', e', hE⟩ := er_part h1 t0 t1 (by rw [pO_len, hn1]) hc7.1 hc7.2
                    refine ⟨o', e', ?_⟩
                    have hs5 : Stay E5 K V (.slice (some ⟨g7, o', none⟩) (tt - n0) (c7 - n0)) (((pO l1).take tt).drop n0) := stay_out hE (fun a n' c' e hx => by cases e; exact hgk hx)
                    have hs2 : Stay E2 K V (.slice (some ⟨gc, 0, none⟩) (2 * m) (2 * m)) (List.replicate (2 * m) lstP) := stay_out h2 (fun a n' c' e hx => by cases e; have h9 : gc < gc := hK4 _ hx; omega)
                    have := bafeed_ok 1 (nxP n0) (2 * (tt : Int) - 1) _ _ _ _ V (hB.keep hV) hs2 hs5 hfd hfl hfx.symm (fun x hx => by rw [List.eq_of_mem_replicate hx]; unfold J64 lstP; dsimp only; omega) hfit (by unfold J64; omega)
                    rw [hte] at this
                    exact this
                  have HNx : Hid (∀ V, Below wr.heap.size wr V → Calls Try.prog 8 #[bptr K, .int .i64 1] V fun e w' => e = .returned (.int .i64 (nxP n0)) ∧ w' = V) := fun V hV => by
                    have := bnext_at 1 f V (hB.keep hV) hfl
                    rw [hfx] at this
                    exact this
                  have hcl : ¬ bkB K g7 := hgk
                  clear htt hfd hte hfit hfl hfx hB hI hgk d1 d9
                  refine wp_region_held_drew (S := fun w' => Frm (bkB K) wr w') (by kernel_rfl) (frm_below (ab_drew (Below.refl _ _))) (fun hHeld => ?_)
                  have bV : Below wr.heap.size wr wr.drew := ab_drew (Below.refl _ _)
                  generalize wr.drew = V at *
                  obtain ⟨o', hsl, HFe⟩ := HFd.out V bV
                  have hsl' : Hid (sliced (some ⟨g7, 0, none⟩) n0 tt c7 5 = .slice (some ⟨g7, o', none⟩) (tt - n0) (c7 - n0)) := hsl
                  clear HFd hsl
                  have ht1 : (1 : Int) ≤ (tt : Int) := by omega
                  have httn : (tt : Int) ≤ (n : Int) := by omega
                  refine takeH (i := 0) (some 127) rfl rfl (by kernel_rfl) (by kernel_rfl) (by kernel_rfl) (fun _ _ _ h => h) (by rfl) (fun w hSw => by (try dsimp only at hSw); go_simp; try rfl) hHeld ?_
                  go_frame
                  refine takeH (i := 1) (some 128) rfl rfl (by kernel_rfl) (by kernel_rfl) (by kernel_rfl) (fun _ _ _ h => h) (by rfl) (fun w hSw => by (try dsimp only at hSw); go_simp; try rfl) hHeld ?_
                  go_frame
                  refine takeH (i := 3) (some 130) rfl rfl (by kernel_rfl) (by kernel_rfl) (by kernel_rfl) (fun _ _ _ h => h) (by rfl) (fun w hSw => by (try dsimp only at hSw); go_simp; try rfl) hHeld ?_
                  go_frame
                  refine takeH (i := 4) (some 131) rfl rfl (by kernel_rfl) (by kernel_rfl) (by kernel_rfl) (fun _ _ _ h => h) (by rfl) (fun w hSw => by (try dsimp only at hSw); go_simp; try rfl) hHeld ?_
                  go_frame
                  refine takeH (i := 5) (some 132) rfl rfl (by kernel_rfl) (by kernel_rfl) (by kernel_rfl) (fun _ _ _ h => h) (by rfl) (fun w hSw => by (try dsimp only at hSw); go_simp; try rfl) hHeld ?_
                  go_frame
                  have hti : ((tt : Int) - 1).toNat = tt - 1 := by omega
                  have hw1 : IntKind.i64.wrap ((tt : Int) - 1) = (tt : Int) - 1 := by rw [IntKind.wrap_i64]; omega
                  have hwl : (tt : Int) - 1 < (n : Int) := by omega
                  refine takeH (i := 6) (some 133) rfl rfl (by kernel_rfl) (by kernel_rfl) (by kernel_rfl) (fun _ _ _ h => h) (by rfl) (fun w hSw => by (try dsimp only at hSw); go_simp; try rfl) hHeld ?_
                  go_frame
                  refine takeH (i := 7) (some 134) rfl rfl (by kernel_rfl) (by kernel_rfl) (by kernel_rfl) (fun _ _ _ h => h) (by rfl) (fun w hSw => by (try dsimp only at hSw); go_simp; try rfl) hHeld ?_
                  go_frame
                  refine takeH (i := 8) (some 135) rfl rfl (by kernel_rfl) (by kernel_rfl) (by kernel_rfl) (fun _ _ _ h => h) (by rfl) (fun w hSw => by (try dsimp only at hSw); (have q8 := HC8.out _ hSw; go_simp; try rfl)) hHeld ?_
                  go_frame
                  refine takeH (i := 9) (some 136) rfl rfl (by kernel_rfl) (by kernel_rfl) (by kernel_rfl) (fun _ _ _ h => h) (by rfl) (fun w hSw => by (try dsimp only at hSw); go_simp; try rfl) hHeld ?_
                  go_frame
                  refine takeH (i := 10) (some 137) rfl rfl (by kernel_rfl) (by kernel_rfl) (by kernel_rfl) (fun _ _ _ h => h) (by rfl) (fun w hSw => by (try dsimp only at hSw); go_simp; try rfl) hHeld ?_
                  go_frame
                  refine takeH (i := 11) (some 138) rfl rfl (by kernel_rfl) (by kernel_rfl) (by kernel_rfl) (fun _ _ _ h => h) (by rfl) (fun w hSw => by (try dsimp only at hSw); go_simp; try rfl) hHeld ?_
                  go_frame
                  refine takeH (i := 12) (some 139) rfl rfl (by kernel_rfl) (by kernel_rfl) (by kernel_rfl) (fun _ _ _ h => h) (by rfl) (fun w hSw => by (try dsimp only at hSw); go_simp; try rfl) hHeld ?_
                  go_frame
                  refine takeH (i := 13) (some 140) rfl rfl (by kernel_rfl) (by kernel_rfl) (by kernel_rfl) (fun _ _ _ h => h) (by rfl) (fun w hSw => by (try dsimp only at hSw); exact sl_opE (n := n) hsl'.out (by omega) (by omega) rfl rfl rfl rfl) hHeld ?_
                  go_frame
                  refine wpAnyH_ready (rs := [2]) (by kernel_rfl) (by simp) (AllReadyH.cons rfl (fun K hK => ?_) AllReadyH.nil)
                  go_simp
                  refine (HNx.out _ bV).mono ?_
                  rintro e V1 ⟨rfl, rfl⟩
                  show K _ _
                  refine hK.out _ _ hHeld (fun hHeld => ?_)
                  clear hK K
                  refine wpAnyH_ready (rs := [14]) (by kernel_rfl) (by simp) (AllReadyH.cons rfl (fun K hK => ?_) AllReadyH.nil)
                  go_simp
                  refine HFe.mono ?_
                  rintro e V2 ⟨rfl, hB2, hF2⟩
                  show K _ _
                  refine hK.out _ _ (hHeld.trans hF2) (fun hHeld => ?_)
                  clear hK K
                  refine takeH (i := 15) (some 142) rfl rfl (by kernel_rfl) (by kernel_rfl) (by kernel_rfl) (fun _ _ _ h => h) (by rfl) (fun w hSw => by (try dsimp only at hSw); go_simp; try rfl) hHeld ?_
                  go_frame
                  refine wpAnyH_done (by kernel_rfl) ?_ _
                  have hF3 := hF.trans hHeld
                  clear HFe hsl' HNx HC8 hti hw1 hwl ht1 httn bV hF2 hHeld hcl
                  go_wp2_with fail
                  exact ⟨⟨_, .int .i64 (tt : Int), .int .i64 ((k0 : Int) + 1), ⟨tt, t1, k0 + 1, by omega, rfl, by go_num, _, hB2, hI2⟩, rfl, rfl, rfl⟩, by simp [intOf]; omega⟩
                · have hpi : ¬ (k0 : Int) < (p : Int) := by omega
                  go_upto_region 32 with fail
                  obtain ⟨d, hd⟩ : ∃ d : Nat, d = 1 := ⟨_, rfl⟩
                  rw [show (Value.int IntKind.i64 1) = Value.int IntKind.i64 (d : Int) by rw [hd]; rfl]
                  have d1 : 1 ≤ d := by omega
                  have d9 : (d : Int) ≤ 9 := by omega
                  clear hd
                  go_upto_region 33 with fail
                  obtain ⟨tt, htt⟩ : ∃ tt : Nat, min ((n0 : Int) + (d : Int)) (n : Int) = (tt : Int) := ⟨min (n0 + d) n, by omega⟩
                  rw [htt]
                  have t0 : n0 < tt := by omega
                  have t1 : tt ≤ n := by omega
                  obtain ⟨g7, cap7, e7⟩ := hq7 (by omega)
                  injection e7 with e71 e72 e73
                  subst e71
                  subst e73
                  clear e72
                  have hgk := hl7 g7 rfl
                  have hfd' := bp_feed (tn := tt) (cut := List.replicate (2 * m) lstP) hI HF.out (by rw [hn1]; exact HL.out.1) (by rw [hn3]; exact HL.out.2) t0 (by rw [hn1]; exact t1) (by rw [List.length_replicate, hn3]) (fun x hx => List.eq_of_mem_replicate hx)
                  obtain ⟨hfd, hte, hI2, hfit⟩ := hfd'
                  obtain ⟨f, hfl, hfx⟩ := hI.nx
                  have HC8 : Hid (∀ V, Frm (bkB K) wr V → V.cell? ⟨g7, (tt - 1) * 5, none⟩ = some (.int .i64 (2 * (tt : Int) - 1))) := fun V hV => by
                    obtain ⟨o, ho⟩ : ∃ o, (pO l1)[tt - 1]? = some o := ⟨_, List.getElem?_eq_getElem (by rw [pO_len, hn1]; omega)⟩
                    have h1 := er_cell5 (HO.out V (hF.trans hV)).1 ho (i := 0) rfl
                    rw [Nat.add_zero, (pO_form ho).1] at h1
                    rw [h1]
                    congr 2
                    omega
                  have HFd : Hid (∀ V, Below wr.heap.size wr V → ∃ o', sliced (some ⟨g7, 0, none⟩) n0 tt c7 5 = .slice (some ⟨g7, o', none⟩) (tt - n0) (c7 - n0) ∧ Calls Try.prog 7 #[bptr K, .int .i64 1, .int .i64 (nxP n0), .int .i64 (2 * (tt : Int) - 1), .slice (some ⟨gc, 0, none⟩) (2 * m) (2 * m), .slice (some ⟨g7, o', none⟩) (tt - n0) (c7 - n0)] V fun e w' => e = .returned .nilIface ∧ Bq w' b0 K (fdZ S 1 (2 * (tt : Int) - 1) (List.replicate (2 * m) lstP) (((pO l1).take tt).drop n0)) ∧ Frm (bkB K) V w') := fun V hV => by
                    have hFV := hF.trans (frm_below hV)
                    obtain ⟨h1, -, h2, -⟩ := HO.out V hFV
                    obtain ⟨o', e', hE⟩ := er_part h1 t0 t1 (by rw [pO_len, hn1]) hc7.1 hc7.2
                    refine ⟨o', e', ?_⟩
                    have hs5 : Stay E5 K V (.slice (some ⟨g7, o', none⟩) (tt - n0) (c7 - n0)) (((pO l1).take tt).drop n0) := stay_out hE (fun a n' c' e hx => by cases e; exact hgk hx)
                    have hs2 : Stay E2 K V (.slice (some ⟨gc, 0, none⟩) (2 * m) (2 * m)) (List.replicate (2 * m) lstP) := stay_out h2 (fun a n' c' e hx => by cases e; have h9 : gc < gc := hK4 _ hx; omega)
                    have := bafeed_ok 1 (nxP n0) (2 * (tt : Int) - 1) _ _ _ _ V (hB.keep hV) hs2 hs5 hfd hfl hfx.symm (fun x hx => by rw [List.eq_of_mem_replicate hx]; unfold J64 lstP; dsimp only; omega) hfit (by unfold J64; omega)
                    rw [hte] at this
                    exact this
                  have HNx : Hid (∀ V, Below wr.heap.size wr V → Calls Try.prog 8 #[bptr K, .int .i64 1] V fun e w' => e = .returned (.int .i64 (nxP n0)) ∧ w' = V) := fun V hV => by
                    have := bnext_at 1 f V (hB.keep hV) hfl
                    rw [hfx] at this
                    exact this
                  have hcl : ¬ bkB K g7 := hgk
                  clear htt hfd hte hfit hfl hfx hB hI hgk d1 d9
                  refine wp_region_held_drew (S := fun w' => Frm (bkB K) wr w') (by kernel_rfl) (frm_below (ab_drew (Below.refl _ _))) (fun hHeld => ?_)
                  have bV : Below wr.heap.size wr wr.drew := ab_drew (Below.refl _ _)
                  generalize wr.drew = V at *
                  obtain ⟨o', hsl, HFe⟩ := HFd.out V bV
                  have hsl' : Hid (sliced (some ⟨g7, 0, none⟩) n0 tt c7 5 = .slice (some ⟨g7, o', none⟩) (tt - n0) (c7 - n0)) := hsl
                  clear HFd hsl
                  have ht1 : (1 : Int) ≤ (tt : Int) := by omega
                  have httn : (tt : Int) ≤ (n : Int) := by omega
                  refine takeH (i := 0) (some 127) rfl rfl (by kernel_rfl) (by kernel_rfl) (by kernel_rfl) (fun _ _ _ h => h) (by rfl) (fun w hSw => by (try dsimp only at hSw); go_simp; try rfl) hHeld ?_
                  go_frame
                  refine takeH (i := 1) (some 128) rfl rfl (by kernel_rfl) (by kernel_rfl) (by kernel_rfl) (fun _ _ _ h => h) (by rfl) (fun w hSw => by (try dsimp only at hSw); go_simp; try rfl) hHeld ?_
                  go_frame
                  refine takeH (i := 3) (some 130) rfl rfl (by kernel_rfl) (by kernel_rfl) (by kernel_rfl) (fun _ _ _ h => h) (by rfl) (fun w hSw => by (try dsimp only at hSw); go_simp; try rfl) hHeld ?_
                  go_frame
                  refine takeH (i := 4) (some 131) rfl rfl (by kernel_rfl) (by kernel_rfl) (by kernel_rfl) (fun _ _ _ h => h) (by rfl) (fun w hSw => by (try dsimp only at hSw); go_simp; try rfl) hHeld ?_
                  go_frame
                  refine takeH (i := 5) (some 132) rfl rfl (by kernel_rfl) (by kernel_rfl) (by kernel_rfl) (fun _ _ _ h => h) (by rfl) (fun w hSw => by (try dsimp only at hSw); go_simp; try rfl) hHeld ?_
                  go_frame
                  have hti : ((tt : Int) - 1).toNat = tt - 1 := by omega
                  have hw1 : IntKind.i64.wrap ((tt : Int) - 1) = (tt : Int) - 1 := by rw [IntKind.wrap_i64]; omega
                  have hwl : (tt : Int) - 1 < (n : Int) := by omega
                  refine takeH (i := 6) (some 133) rfl rfl (by kernel_rfl) (by kernel_rfl) (by kernel_rfl) (fun _ _ _ h => h) (by rfl) (fun w hSw => by (try dsimp only at hSw); go_simp; try rfl) hHeld ?_
                  go_frame
                  refine takeH (i := 7) (some 134) rfl rfl (by kernel_rfl) (by kernel_rfl) (by kernel_rfl) (fun _ _ _ h => h) (by rfl) (fun w hSw => by (try dsimp only at hSw); go_simp; try rfl) hHeld ?_
                  go_frame
                  refine takeH (i := 8) (some 135) rfl rfl (by kernel_rfl) (by kernel_rfl) (by kernel_rfl) (fun _ _ _ h => h) (by rfl) (fun w hSw => by (try dsimp only at hSw); (have q8 := HC8.out _ hSw; go_simp; try rfl)) hHeld ?_
                  go_frame
                  refine takeH (i := 9) (some 136) rfl rfl (by kernel_rfl) (by kernel_rfl) (by kernel_rfl) (fun _ _ _ h => h) (by rfl) (fun w hSw => by (try dsimp only at hSw); go_simp; try rfl) hHeld ?_
                  go_frame
                  refine takeH (i := 10) (some 137) rfl rfl (by kernel_rfl) (by kernel_rfl) (by kernel_rfl) (fun _ _ _ h => h) (by rfl) (fun w hSw => by (try dsimp only at hSw); go_simp; try rfl) hHeld ?_
                  go_frame
                  refine takeH (i := 11) (some 138) rfl rfl (by kernel_rfl) (by kernel_rfl) (by kernel_rfl) (fun _ _ _ h => h) (by rfl) (fun w hSw => by (try dsimp only at hSw); go_simp; try rfl) hHeld ?_
                  go_frame
                  refine takeH (i := 12) (some 139) rfl rfl (by kernel_rfl) (by kernel_rfl) (by kernel_rfl) (fun _ _ _ h => h) (by rfl) (fun w hSw => by (try dsimp only at hSw); go_simp; try rfl) hHeld ?_
                  go_frame
                  refine takeH (i := 13) (some 140) rfl rfl (by kernel_rfl) (by kernel_rfl) (by kernel_rfl) (fun _ _ _ h => h) (by rfl) (fun w hSw => by (try dsimp only at hSw); exact sl_opE (n := n) hsl'.out (by omega) (by omega) rfl rfl rfl rfl) hHeld ?_
                  go_frame
                  refine wpAnyH_ready (rs := [2]) (by kernel_rfl) (by simp) (AllReadyH.cons rfl (fun K hK => ?_) AllReadyH.nil)
                  go_simp
                  refine (HNx.out _ bV).mono ?_
                  rintro e V1 ⟨rfl, rfl⟩
                  show K _ _
                  refine hK.out _ _ hHeld (fun hHeld => ?_)
                  clear hK K
                  refine wpAnyH_ready (rs := [14]) (by kernel_rfl) (by simp) (AllReadyH.cons rfl (fun K hK => ?_) AllReadyH.nil)
                  go_simp
                  refine HFe.mono ?_
                  rintro e V2 ⟨rfl, hB2, hF2⟩
                  show K _ _
                  refine hK.out _ _ (hHeld.trans hF2) (fun hHeld => ?_)
                  clear hK K
                  refine takeH (i := 15) (some 142) rfl rfl (by kernel_rfl) (by kernel_rfl) (by kernel_rfl) (fun _ _ _ h => h) (by rfl) (fun w hSw => by (try dsimp only at hSw); go_simp; try rfl) hHeld ?_
                  go_frame
                  refine wpAnyH_done (by kernel_rfl) ?_ _
                  have hF3 := hF.trans hHeld
                  clear HFe hsl' HNx HC8 hti hw1 hwl ht1 httn bV hF2 hHeld hcl
                  go_wp2_with fail
                  exact ⟨⟨_, .int .i64 (tt : Int), .int .i64 ((k0 : Int) + 1), ⟨tt, t1, k0 + 1, by omega, rfl, by go_num, _, hB2, hI2⟩, rfl, rfl, rfl⟩, by simp [intOf]; omega⟩
              · have hI0 := hI
                rw [List.take_of_length_le (by rw [pO_len, hn1]; omega)] at hI
                have hnn : ¬ (n0 : Int) < (n : Int) := by omega
                have hT : tS 2 l3 (pS (pO l1)) = takQ 1 2 l3 (pO l1) := tS_takQ _ (fun o ho => by
                  obtain ⟨j, hj, e⟩ := List.getElem_of_mem ho
                  exact (pO_form (List.getElem?_eq_some_iff.2 ⟨hj, e⟩)).2)
                rw [← hT] at hI
                obtain ⟨-, hOs, -, hbw⟩ := HO.out wr hF
                have HFt : Hid (∀ o ∈ pO l1, Fit5 o) := pO_fit HF.out (by rw [hn1]; exact HL.out.1)
                have HT3 : Hid (∀ L : List Tok, L.length ≤ 150 → (tS 2 l3 L).length ≤ 450) := fun L hL => by
                  have h1 := tS_len 2 l3 L
                  have h2 : L.length * l3.length ≤ 150 * 3 := Nat.mul_le_mul hL (by rw [hn3]; exact HL.out.2)
                  omega
                have HQ : Hid (∀ V, Below wr.heap.size wr V → Bq V b0 K S ∧ Below w.heap.size w V) := fun V hV => ⟨hB.keep hV, ab_trans hbw hV⟩
                have HO2 : Hid (∀ V, Below wr.heap.size wr V → ER E6 V (.slice q8 ns c8) (pS (pO l1))) := fun V hV => (hOs.keep hV).er
                have HTT : Hid ((tS 2 l3 (pS (pO l1))).length ≤ 450) := HT3.out _ (by rw [hns]; exact hSl)
                have HI : Hid (BpI S l3 (tS 2 l3 (pS (pO l1))) n0) := hI
                have HLn : Hid (l3.length = m ∧ m ≤ 3) := ⟨hn3, HL.out.2⟩
                have hm0p : 0 < wr.heap.size := Nat.lt_of_le_of_lt (Nat.zero_le _) (hB.blk.lt)
                clear hB hF hOs hbw HO hq7 hl7 hc7 hK4 hKb hKr hB5s hK0 hB0 hwb0 hT hb04 hI hI0 HF HL HP2 hq2
                go_upto_region 37 with fail
                have b8 : Below wr.heap.size wr (wr.alloc (.map #[] 0)) := (Below.refl _ _).alloc (Nat.le_refl _) _
                have hG8 : Gm (wr.alloc (.map #[] 0)) wr.heap.size wr.heap.size (tS 2 l3 ((pS (pO l1)).take 0)) 0 := gm_new wr wr.heap.size 0
                generalize wr.alloc (.map #[] 0) = W8 at *
                go_wp2_with fail
                generalize hm0 : wr.heap.size = m0 at *
                clear hm0
                obtain ⟨WW, hWW⟩ : ∃ WW, WW = wr := ⟨_, rfl⟩
                rw [← hWW] at HQ HO2 b8
                clear hWW
                go_loopw [147] (fun z V => ∃ j : Nat, j ≤ ns ∧ z = .int .i64 (j : Int) ∧ Gm V m0 m0 (tS 2 l3 ((pS (pO l1)).take j)) 0 ∧ Below m0 WW V) (fun z _ => ns - (intOf z).toNat)
                case atStart => exact ⟨0, by omega, rfl, hG8, b8⟩
                case round =>
                  clear hG8 b8
                  obtain ⟨j, hj, rfl, hG, hb⟩ := hrel
                  obtain ⟨hQ, hbw⟩ := HQ.out wr hb
                  by_cases cj : j < ns
                  · obtain ⟨x, hx⟩ : ∃ x, (pS (pO l1))[j]? = some x := ⟨(pS (pO l1))[j]'(by omega), List.getElem?_eq_getElem (by omega)⟩
                    obtain ⟨o, ho, exo⟩ := pS_mem (List.mem_of_getElem? hx)
                    subst exo
                    have hfo := HFt.out o ho
                    have HSn : Hid (tS 2 l3 ((pS (pO l1)).take (j + 1)) = tS 2 l3 ((pS (pO l1)).take j) ++ tokL 1 o (idL o.t o.y 2 l3)) := tS_take (sh := 2) (res := l3) hx
                    have hTl := HT3.out ((pS (pO l1)).take j) (by rw [List.length_take]; omega)
                    obtain ⟨q', cap', gs, os', e', -, -, hps, hrs⟩ := (HO2.out wr hb).at
                    rw [hns] at e' hps
                    injection e' with e1 e2 e3
                    subst e1
                    obtain ⟨rfl, hgs⟩ := hps (by omega)
                    have z0 := hrs j _ hx 0 _ rfl
                    have z1 := hrs j _ hx 1 _ rfl
                    have z2 := hrs j _ hx 2 _ rfl
                    have z3 := hrs j _ hx 3 _ rfl
                    have z4 := hrs j _ hx 4 _ rfl
                    have z5 := hrs j _ hx 5 _ rfl
                    rw [Nat.add_zero, show E6.k = 6 from rfl] at z0
                    rw [show E6.k = 6 from rfl] at z1 z2 z3 z4 z5
                    generalize tS 2 l3 ((pS (pO l1)).take j) = T at *
                    clear hrs hps hx ho
                    have hji : (j : Int) < (ns : Int) := by omega
                    have hj150 : (j : Int) ≤ 150 := by omega
                    obtain ⟨os, ok, ot, oy, ov⟩ := o
                    have HIc : Hid (∀ V, Below w.heap.size w V → Calls Try.prog 9 #[opV ⟨os, ok, ot, oy, ov⟩, .slice q3 m c3, .int .i64 2] V fun e w' => ∃ v', e = .returned v' ∧ EO E3k 47 w' V.heap.size v' (idL ot oy 2 l3) ∧ Below V.heap.size V w') := fun V hV => rids_is ⟨os, ok, ot, oy, ov⟩ _ l3 2 V (H3.out V hV) hfo HR.out (by omega) (by have := HLn.out; omega)
                    have HKy : Hid (∀ k ∈ idL ot oy 2 l3, KyOk k) := fun k hk => (idL_mem (by omega) (by omega) (by have := HLn.out; omega) hfo.t hfo.y hk).1
                    have hil : (idL ot oy 2 l3).length = m := by rw [idL_len]; exact HLn.out.1
                    try dsimp only [smp] at z0 z1 z2 z3 z4 z5
                    try dsimp only at HSn
                    generalize idL ot oy 2 l3 = IDS at *
                    clear hfo
                    go_upto_region 40 with (first
                      | (refine al_blk rfl rfl #[.int .i64 0, .int .i64 0, .int .i64 0, .int .i64 0, .int .i64 0, .int .i64 0] (zero_smB _) ?_; intro W9 e9 hX9 b9; clear e9)
                      | (refine st_blk rfl rfl hX9 rfl (vs := smA (smp ⟨os, ok, ot, oy, ov⟩)) rfl (info_smB (smp ⟨os, ok, ot, oy, ov⟩)) rfl (by simp [smA, smp, Value.oneCell']) ?_; intro W10 hX10 C10))
                    have b10 := ab_chg b9 C10 (Nat.le_refl _)
                    have hG10 := (hG.avoid (Nat.le_refl _)).keep b10
                    have hb10 : Below m0 _ W10 := hb.trans (b10.mono (Nat.le_of_lt hG.lt))
                    have hsb : wr.heap.size < W10.heap.size := hX10.lt
                    have hw10 := ab_trans hbw b10
                    have hm0w : m0 < wr.heap.size := hG.lt
                    have y1 : W10.cell? ⟨wr.heap.size, 1, none⟩ = some (.int .i64 os) := hX10.at rfl
                    have y2 : W10.cell? ⟨wr.heap.size, 2, none⟩ = some (.int .i64 ok) := hX10.at rfl
                    have y3 : W10.cell? ⟨wr.heap.size, 3, none⟩ = some (.int .i64 ot) := hX10.at rfl
                    have y4 : W10.cell? ⟨wr.heap.size, 4, none⟩ = some (.int .i64 oy) := hX10.at rfl
                    have y5 : W10.cell? ⟨wr.heap.size, 5, none⟩ = some (.int .i64 ov) := hX10.at rfl
                    clear hX9 C10 b9 z0 z1 z2 z3 z4 z5 hG hb hbw hQ
                    go_upto_region 41 with (go_at_call 9; refine (HIc.out _ hw10).mono ?_; rintro e W11 ⟨vi, rfl, hOi, b11⟩; obtain ⟨qi, ci, ei⟩ := hOi.form; rw [hil] at ei; subst ei)
                    have hG11 := hG10.keep b11
                    have hX11 := hX10.keep b11
                    have hb11 := hb10.trans (b11.mono (by omega))
                    have hW11 := b11.size
                    have h10m : m0 < W10.heap.size := by omega
                    have hX11s : wr.heap.size < W10.heap.size := hsb
                    clear hG10 hX10 hb10 b11 y1 y2 y3 y4 y5 HIc hw10 b10
                    generalize hsbn : wr.heap.size = sb at *
                    clear hsbn
                    generalize hW10s : W10.heap.size = s10 at *
                    clear hW10s
                    have hG11' : Gm W11 m0 m0 (T ++ tokL 1 ⟨os, ok, ot, oy, ov⟩ (IDS.take 0)) sb := by
                      rw [show T ++ tokL 1 (⟨os, ok, ot, oy, ov⟩ : Op5) (IDS.take 0) = T from by simp [tokL]]
                      exact hG11
                    clear hG11
                    go_wp2_with fail
                    go_loopw [156] (fun z V => ∃ i : Nat, i ≤ m ∧ z = .int .i64 (i : Int) ∧ Gm V m0 m0 (T ++ tokL 1 ⟨os, ok, ot, oy, ov⟩ (IDS.take i)) sb ∧ Blk V sb (smA (smp ⟨os, ok, ot, oy, ov⟩)) 29 ∧ EO E3k 47 V s10 (.slice qi m ci) IDS ∧ Below m0 WW V ∧ sb < V.heap.size) (fun z _ => m - (intOf z).toNat)
                    case atStart => exact ⟨0, by omega, rfl, hG11', hX11, hOi, hb11, by omega⟩
                    case round =>
                      clear hG11' hX11 hOi hb11 hW11
                      obtain ⟨i, hi, rfl, hG, hX, hOi, hb, hsv⟩ := hrel
                      by_cases ci' : i < m
                      · obtain ⟨kk, hkk⟩ : ∃ kk, IDS[i]? = some kk := ⟨IDS[i]'(by omega), List.getElem?_eq_getElem (by omega)⟩
                        have hky := HKy.out kk (List.mem_of_getElem? hkk)
                        have HTn : Hid (T ++ tokL 1 ⟨os, ok, ot, oy, ov⟩ (IDS.take (i + 1)) = (T ++ tokL 1 ⟨os, ok, ot, oy, ov⟩ (IDS.take i)) ++ [(kk, 1, ⟨os, ok, ot, oy, ov⟩)]) := by
                          show _ = _
                          rw [List.take_add_one, hkk, Option.toList_some, List.append_assoc]
                          unfold tokL
                          rw [List.map_append]
                          rfl
                        have hTl2 : (T ++ tokL 1 ⟨os, ok, ot, oy, ov⟩ (IDS.take i)).length ≤ 1000 := by
                          rw [List.length_append]
                          unfold tokL
                          rw [List.length_map, List.length_take]
                          omega
                        generalize T ++ tokL 1 ⟨os, ok, ot, oy, ov⟩ (IDS.take i) = TT at *
                        obtain ⟨ka, kb, kc⟩ := kk
                        obtain ⟨qi', ci2, gi, oi, hif, -, -, hip, hir⟩ := hOi.er.at
                        rw [hil] at hif hip
                        injection hif with hi1 _ hi4
                        subst hi1
                        subst hi4
                        obtain ⟨rfl, hgi⟩ := hip (by omega)
                        have i0 := hir i (ka, kb, kc) hkk 0 _ rfl
                        have i1 := hir i (ka, kb, kc) hkk 1 _ rfl
                        have i2 := hir i (ka, kb, kc) hkk 2 _ rfl
                        rw [Nat.add_zero, show E3k.k = 3 from rfl] at i0
                        rw [show E3k.k = 3 from rfl] at i1 i2
                        have hii : (i : Int) < (m : Int) := by omega
                        have hi3 : (i : Int) ≤ 3 := by have := HLn.out.2; omega
                        clear hir hip hkk
                        have hgo : ∀ g, (Value.slice (some ⟨gi, oi, none⟩) m ci).ownBlock = some g → s10 ≤ g := fun g hg => (World.ownsRow.lt hOi g hg).1
                        go_upto_region 43 with (first
                          | (refine al_blk rfl rfl #[.int .i64 0, .int .i64 0, .int .i64 0] (zero_idB _) ?_; intro W12 e12 hI12 b12; clear e12)
                          | (refine st_blk rfl rfl hI12 rfl (vs := #[.int .i64 ka, .int .i64 kb, .int .i64 kc]) rfl (info_idB (ka, kb, kc)) rfl (by simp [Value.oneCell']) ?_; intro W13 hI13 C13))
                        have b1113 := ab_chg b12 C13 (Nat.le_refl _)
                        have hG13 := hG.keep b1113
                        have hX13 := hX.keep b1113
                        have hOi13 := hOi.keep b1113
                        have hb13 := hb.trans (b1113.mono (Nat.le_of_lt hG.lt))
                        have hs13 := b1113.size
                        have hm13 : m0 < W13.heap.size := hG13.lt
                        have j0 : W13.cell? ⟨wr.heap.size, 0, none⟩ = some (.int .i64 ka) := hI13.at rfl
                        have j1 : W13.cell? ⟨wr.heap.size, 1, none⟩ = some (.int .i64 kb) := hI13.at rfl
                        have j2 : W13.cell? ⟨wr.heap.size, 2, none⟩ = some (.int .i64 kc) := hI13.at rfl
                        have hfl0 := flK_len TT (ka, kb, kc)
                        have HG13 : Hid (∀ V, Below W13.heap.size W13 V → Gm V m0 m0 TT sb ∧ Blk V sb (smA (smp ⟨os, ok, ot, oy, ov⟩)) 29 ∧ EO E3k 47 V s10 (.slice (some ⟨gi, oi, none⟩) m ci) IDS ∧ Below m0 _ V) := fun V hV => ⟨hG13.keep hV, hX13.keep hV, hOi13.keep hV, hb13.trans (hV.mono (Nat.le_of_lt hm13))⟩
                        clear hI12 b12 C13 i0 i1 i2 hI13 hG hX hOi hb hG13 hOi13 hb13 b1113
                        go_upto_region 44 with (first
                          | (refine ld_blk rfl rfl hX13 rfl _ Try.underlying29 rfl (info_smB (smp ⟨os, ok, ot, oy, ov⟩)) ?_; clear hX13)
                          | (refine bs_smpB rfl rfl ((ka, kb, kc), (1 : Int), (⟨os, ok, ot, oy, ov⟩ : Op5)) (by simp only [List.map_toArray, List.map_cons, List.map_nil]; rfl) ?_; intro W14 hO14 b14; obtain ⟨hG14, hX14, hOi14, hb14⟩ := HG13.out W14 b14)
                          | (refine me_run rfl rfl rfl rfl hG14 hky (by omega) (by have := b14.size; omega) ?_; intro vm st om W15 hOm hnm C15 hm15 hom hBk; have hsl : ER E6 W15 _ _ := (show EO E6 29 W15 _ _ _ from own_at hO14 (fun g hg => C15.other g (fun e => by have := (World.ownsRow.lt hO14 g hg).1; omega))).er)
                          | (at_builtin; refine app_at (v := vm) (vx := .slice (some ⟨W13.heap.size, 0, none⟩) 1 1) rfl rfl rfl hOm rfl hsl (by omega) (by rw [C15.size]; exact Nat.le_of_lt hG14.lt) ?_; intro va W16 hO16 hg16 hl16; have HBk16 : Hid _ := back_ok hG14.isMap C15 hm15 hom hOm hg16)
                          | (refine es_run (v := vm) (v' := va) (st := st) (o1 := om) (k := (ka, kb, kc)) rfl rfl rfl rfl rfl hBk (s := ((ka, kb, kc), (1 : Int), (⟨os, ok, ot, oy, ov⟩ : Op5))) rfl HBk16.out.1 HBk16.out.2 hO16 (hl16.imp id (fun h9 g hg => by rw [h9] at hg; injection hg with hg; have := C15.size; omega)) ?_; intro W17 hG17 C17))
                        have hbn : Below m0 WW W17 := by
                          have b15 : Below m0 WW W15 := hb14.trans ⟨C15.os, C15.tape, C15.output, by rw [C15.size]; exact Nat.le_refl _, fun i hi => C15.other i (by omega)⟩
                          have b16 := b15.grown hg16 (by have := C15.size; have := hG14.lt; omega) (fun g hg => (World.ownsRow.lt hOm g hg).1)
                          exact b16.trans ⟨C17.os, C17.tape, C17.output, by rw [C17.size]; exact Nat.le_refl _, fun i hi => C17.other i (by omega)⟩
                        have hXn : Blk W17 sb (smA (smp ⟨os, ok, ot, oy, ov⟩)) 29 := by
                          have e15 := hX14.frm (frm_chg (X := fun k => k = m0) C15 rfl) (by omega)
                          have e16 : Blk W16 sb (smA (smp ⟨os, ok, ot, oy, ov⟩)) 29 := by
                            unfold Blk
                            rw [hg16.block sb e15.lt (fun e => hnm e.symm)]
                            exact e15
                          exact e16.frm (frm_chg (X := fun k => k = m0) C17 rfl) (by omega)
                        have hOin : EO E3k 47 W17 s10 (.slice (some ⟨gi, oi, none⟩) m ci) IDS := by
                          have e15 : EO E3k 47 W15 s10 (.slice (some ⟨gi, oi, none⟩) m ci) IDS := own_at hOi14 (fun g hg => C15.other g (by have := hgo g hg; omega))
                          have e16 := eo_keptB e15 hOm (by decide) hg16
                          exact own_at e16 (fun g hg => C17.other g (by have := hgo g hg; omega))
                        have HE : Hid (Gm W17 m0 m0 (TT ++ [((ka, kb, kc), 1, ⟨os, ok, ot, oy, ov⟩)]) sb ∧ Blk W17 sb (smA (smp ⟨os, ok, ot, oy, ov⟩)) 29 ∧ EO E3k 47 W17 s10 (.slice (some ⟨gi, oi, none⟩) m ci) IDS ∧ Below m0 WW W17 ∧ sb < W17.heap.size) := ⟨hG17, hXn, hOin, hbn, hXn.lt⟩
                        clear hG17 hXn hOin hbn hG14 hX14 hOi14 hb14 hO14 b14 C15 hm15 hom hBk hsl hOm hnm hO16 hg16 hl16 HBk16 C17 HG13 j0 j1 j2 hky hgo hfl0 hs13 hm13 hsv
                        go_wp2_with fail
                        go_roundw
                        case rel => exact ⟨i + 1, by omega, by go_num, by rw [HTn.out]; exact HE.out.1, HE.out.2.1, HE.out.2.2.1, HE.out.2.2.2.1, HE.out.2.2.2.2⟩
                        case measure => simp [intOf]; omega
                      · have hii : ¬ (i : Int) < (m : Int) := by omega
                        rw [List.take_of_length_le (by omega)] at hG
                        have HE : Hid (Gm wr m0 m0 (tS 2 l3 ((pS (pO l1)).take (j + 1))) 0 ∧ Below m0 WW wr) := by
                          have h1 := hG.low (s := 0) (by omega)
                          refine ⟨?_, hb⟩
                          rw [HSn.out]
                          exact h1
                        clear hG hX hOi hb hsv
                        go_wp2_with fail
                        exact ⟨⟨_, _, .int .i64 ((j : Int) + 1), ⟨j + 1, by omega, by go_num, HE.out.1, HE.out.2⟩, rfl, rfl, rfl⟩, by simp [intOf]; omega⟩
                  · have ejn : j = ns := by omega
                    subst ejn
                    rw [List.take_of_length_le (by omega)] at hG
                    have hjj : ¬ (j : Int) < (j : Int) := by omega
                    have hI := HI.out
                    generalize tS 2 l3 (pS (pO l1)) = TT at *
                    have HTl : TT.length ≤ 450 := HTT.out
                    have hlen := bp_len hI
                    have hft := hI.l.tk.ft
                    have hks := hI.l.tk.ks
                    have hcv := hI.l.tk.cv
                    clear hI HI hj HT3 HFt HO2
                    obtain ⟨D, f, hown, hd⟩ := hG
                    have HSz : Hid (Maps.size D = S.ks.length) := hd.sq.trans hlen
                    have hm0w := hown.lt
                    have HB : Hid (∀ V, Below wr.heap.size wr V → Bq V b0 K S ∧ Below w.heap.size w V) := fun V hV => ⟨hQ.keep hV, ab_trans hbw hV⟩
                    have HO : Hid (∀ V, Below wr.heap.size wr V → ∀ k, KyOk k → k ∈ TT.map (·.1) → EO E6 29 V m0 (f k) (flK TT k)) := fun V hV k hk _ => (hd.own k hk).keep hV
                    have HIs : Hid (∀ k, KyOk k → k ∈ TT.map (·.1) → ∀ z, D.atKey (kyL k) z = .held (f k)) := hd.is
                    have HHs : Hid (∀ k, KyOk k → Maps.has D (kyL k) = decide (k ∈ TT.map (·.1))) := hd.hs
                    clear hQ hbw hlen hd hb HQ
                    go_wp2_with (at_range; refine wpList_range_own _ rfl _ 43 rfl 47 25 keyed16 Try.underlying43 hldV m0 (Maps.size D) D rfl hown ?_; intro w0 hrg0 hg0 hs0)
                    try go_frame
                    have hb0 : Below wr.heap.size wr w0 := (Below.refl _ _).grown hg0 (Nat.le_refl _) (fun r hr => by cases hr)
                    clear hown hg0 hs0
                    generalize hnq : wr.heap.size = nq at *
                    have HNq : Hid (wr.heap.size = nq) := hnq
                    clear hnq
                    obtain ⟨WR, hWR⟩ : ∃ WR, WR = wr := ⟨_, rfl⟩
                    rw [← hWR] at HB HO HNq hb0
                    clear hWR
                    generalize hszn : Maps.size D = sz at *
                    go_loopw [24] (fun _ V => ∃ (left : Go.Lit → Bool) (cnt : Nat), V.ranges Try.prog 47 hldV m0 nq sz D left cnt ∧ (∀ x, left (kyL x) = true → Maps.has D (kyL x) = true) ∧ Below nq WR V) (fun _ V => V.rangeLeft m0 nq)
                    case atStart => exact ⟨_, _, hrg0, fun x h => h, hb0⟩
                    case round =>
                      clear hrg0 hb0
                      obtain ⟨left, cnt, hrg, hin, hb⟩ := hrel
                      go_wp2_with (at_next; refine wpList_next_ranges _ rfl _ rfl 47 keyed16 hldV (fun x : { k : Kyy // KyOk k } => kyV x.1) id ky_inv2 held_inv m0 nq sz D left cnt rfl hrg ?_ ?_)
                      · intro _ hl0
                        have hown := hrg.owns
                        obtain ⟨hQ, hbw⟩ := HB.out wr hb
                        have HLe := blen_any wr hQ
                        have hss : (S.ks.length : Int) = (sz : Int) := by have := HSz.out; omega
                        rw [hss] at HLe
                        have HW : Hid (Below w.heap.size w wr) := hbw
                        clear hrg hin hQ hbw
                        go_wp2_with (first
                          | (go_at_call 12; refine HLe.mono ?_; rintro e W5 ⟨rfl, rfl⟩)
                          | (at_len; refine wpList_len_own _ rfl _ 43 rfl 47 25 Try.underlying43 _ _ _ D rfl hown ?_; rw [hszn]))
                        go_ret
                        exact ⟨rfl, HW.out⟩
                      · intro ka kb kc hk v kl yd yp w1 cnt1 hkey hlk hv hat hrg1 hlt hg1 hs1 hen
                        obtain rfl : kl = kyL (ka, kb, kc) := by
                          rw [key16 hk] at hkey
                          exact (Option.some.inj hkey).symm
                        have hmem : (ka, kb, kc) ∈ TT.map (·.1) := by
                          have := hin _ hlk
                          rw [HHs.out _ hk] at this
                          exact of_decide_eq_true this
                        have hks1 : (ka, kb, kc) ∈ S.ks := by
                          obtain ⟨y, hy, e⟩ := List.mem_map.1 hmem
                          exact (hks _).2 ⟨y, hy, e⟩
                        have hvf : v = f (ka, kb, kc) := by
                          have e1 := HIs.out _ hk hmem (.held (.int .i64 0))
                          rw [hat] at e1
                          unfold hldV at hv
                          injection hv with hv
                          have h1 := congrArg Prod.fst hv
                          dsimp only at h1
                          rw [← h1] at e1
                          injection e1
                        have hbn : Below nq WR w1 := hb.grown hg1 (by have := hb.size; have := HNq.out; omega) (fun r hr => by cases hr; exact Nat.le_refl _)
                        have HM : Hid (w1.rangeLeft m0 nq < wr.rangeLeft m0 nq) := by show _ < _; rw [hrg1.left_eq, hrg.left_eq]; exact hlt
                        have HIn : Hid (∀ x, (left (kyL x) && !(kyL x).sameKey (kyL (ka, kb, kc))) = true → Maps.has D (kyL x) = true) := fun x h => hin x (by simp only [Bool.and_eq_true] at h; exact h.1)
                        have HV : Hid (∀ V, Below w1.heap.size w1 V → V.ranges Try.prog 47 hldV m0 nq sz D (fun z => left z && !z.sameKey (kyL (ka, kb, kc))) cnt1 ∧ Below nq WR V ∧ Bq V b0 K S ∧ EO E6 29 V m0 v (flK TT (ka, kb, kc))) := fun V hV => by
                          have hN : Below nq WR V := hbn.trans (hV.mono (by have := hbn.size; have := HNq.out; omega))
                          refine ⟨ranges_keepB hrg1 hV, hN, (HB.out V hN).1, ?_⟩
                          rw [hvf]
                          exact HO.out V hN _ hk hmem
                        have heq : eqC (S.cv (ka, kb, kc)) (JL (smK TT (ka, kb, kc))) = true := (eqC_iff _ _).2 (hcv _)
                        have HCe : Hid (∀ V, Below w1.heap.size w1 V → Calls Try.prog 10 #[bptr K, .agg #[.int .i64 ka, .int .i64 kb, .int .i64 kc]] V fun e w' => e = .returned (.tuple #[.agg (CA (S.cv (ka, kb, kc))), .bool true]) ∧ Below V.heap.size V w') := fun V hV => by
                          have := bacell_any (ka, kb, kc) V (HV.out V hV).2.2.1 hk
                          rw [decide_eq_true hks1] at this
                          exact this
                        have HOf : Hid (∀ V, Below w1.heap.size w1 V → Calls Try.prog 11 #[v] V fun e w' => e = .returned (.agg (CA (JL (smK TT (ka, kb, kc))))) ∧ Below V.heap.size V w') := fun V hV => bp_of (HV.out V hV).2.2.2 hft (by omega)
                        unfold kyV at hen
                        try dsimp only at hen
                        clear hrg hrg1 hin hb hkey hlk hv hat hlt hg1 hs1 hbn hvf hks1 hmem
                        generalize S.cv (ka, kb, kc) = cc at *
                        generalize JL (smK TT (ka, kb, kc)) = cj at *
                        go_upto_region 49 with (first
                          | (refine al_blk rfl rfl #[.int .i64 0, .int .i64 0, .int .i64 0] (zero_idB _) ?_; intro Wd ed hId bd; clear ed)
                          | (refine st_blk rfl rfl hId rfl (vs := #[.int .i64 ka, .int .i64 kb, .int .i64 kc]) rfl (info_idB (ka, kb, kc)) rfl (by simp [Value.oneCell']) ?_; intro We hIe Ce))
                        have b1e := ab_chg bd Ce (Nat.le_refl _)
                        have i0 : We.cell? ⟨w1.heap.size, 0, none⟩ = some (.int .i64 ka) := hIe.at rfl
                        have i1 : We.cell? ⟨w1.heap.size, 1, none⟩ = some (.int .i64 kb) := hIe.at rfl
                        have i2 : We.cell? ⟨w1.heap.size, 2, none⟩ = some (.int .i64 kc) := hIe.at rfl
                        clear hId bd Ce hIe hen
                        go_upto_region 50 with (first
                          | (go_at_call 10; refine (HCe.out _ b1e).mono ?_; rintro e Wf ⟨rfl, bf⟩)
                          | (refine al_cell rfl rfl ?_; intro Wg eg hXg bg; clear eg)
                          | (refine st_cell rfl rfl hXg rfl rfl ?_; intro Wh hXh Ch))
                        have b1h := ab_trans b1e (ab_trans bf (ab_chg bg Ch (Nat.le_refl _)))
                        have HXh : Hid (∀ V, Below Wh.heap.size Wh V → Blk V Wf.heap.size (CA cc) 54 ∧ Below w1.heap.size w1 V) := fun V hV => ⟨hXh.keep hV, ab_trans b1h hV⟩
                        clear i0 i1 i2 b1e bf hXg bg Ch hXh b1h HCe
                        refine wp_region_held_drew (S := fun w' => Below Wh.heap.size Wh w') (by kernel_rfl) (ab_drew (Below.refl _ _)) (fun hHeld => ?_)
                        refine takeH (i := 0) (some 183) rfl rfl (by kernel_rfl) (by kernel_rfl) (by kernel_rfl) (fun _ _ _ h => h) (by rfl) (fun w hSw => by (try dsimp only at hSw); go_simp; try rfl) hHeld ?_
                        go_frame
                        refine takeH (i := 1) (some 184) rfl rfl (by kernel_rfl) (by kernel_rfl) (by kernel_rfl) (fun _ _ _ h => h) (by rfl) (fun w hSw => by (try dsimp only at hSw); go_simp; try rfl) hHeld ?_
                        go_frame
                        refine takeH (i := 2) (some 185) rfl rfl (by kernel_rfl) (by kernel_rfl) (by kernel_rfl) (fun _ _ _ h => h) (by rfl) (fun w hSw => by (try dsimp only at hSw); go_simp; try rfl) hHeld ?_
                        go_frame
                        refine takeH (i := 3) (some 186) rfl rfl (by kernel_rfl) (by kernel_rfl) (by kernel_rfl) (fun _ _ _ h => h) (by rfl) (fun w hSw => by (try dsimp only at hSw); exact ld_oper rfl rfl (HXh.out _ hSw).1) hHeld ?_
                        go_frame
                        refine takeH (i := 4) (some 187) rfl rfl (by kernel_rfl) (by kernel_rfl) (by kernel_rfl) (fun _ _ _ h => h) (by rfl) (fun w hSw => by (try dsimp only at hSw); go_simp; try rfl) hHeld ?_
                        go_frame
                        refine wpAnyH_ready (rs := [5]) (by kernel_rfl) (by simp) (AllReadyH.cons rfl (fun K hK => ?_) AllReadyH.nil)
                        go_simp
                        refine (HOf.out _ (HXh.out _ hHeld).2).mono ?_
                        rintro e Wi ⟨rfl, bi⟩
                        show K _ _
                        refine hK.out _ _ (ab_trans hHeld bi) (fun hHeld => ?_)
                        clear hK K
                        refine takeH (i := 6) (some 189) rfl rfl (by kernel_rfl) (by kernel_rfl) (by kernel_rfl) (fun _ _ _ h => h) (by rfl) (fun w hSw => by (try dsimp only at hSw); exact cneqB rfl rfl rfl heq _) hHeld ?_
                        go_frame
                        refine takeH (i := 7) (some 190) rfl rfl (by kernel_rfl) (by kernel_rfl) (by kernel_rfl) (fun _ _ _ h => h) (by rfl) (fun w hSw => by (try dsimp only at hSw); go_simp; try rfl) hHeld ?_
                        go_frame
                        refine wpAnyH_done (by kernel_rfl) ?_ _
                        obtain ⟨hr, hn, -⟩ := HV.out Wi (HXh.out _ hHeld).2
                        have HE : Hid (Wi.ranges Try.prog 47 hldV m0 nq sz D (fun z => left z && !z.sameKey (kyL (ka, kb, kc))) cnt1 ∧ Below nq WR Wi) := ⟨hr, hn⟩
                        have HMe : Hid (Wi.rangeLeft m0 nq < wr.rangeLeft m0 nq) := by
                          show _ < _
                          rw [hr.left_eq]
                          have h1 := (HV.out w1 (Below.refl _ _)).1.left_eq
                          have h2 := HM.out
                          omega
                        clear hr hn hHeld HXh HV HOf heq
                        go_wp2_with fail
                        go_roundw
                        case rel => exact ⟨_, _, HE.out.1, HIn.out, HE.out.2⟩
                        case measure => exact HMe.out



theorem bp_out (v1 v2 v3 : Value) (l1 : List Op5) (l2 l3 : List Int) (w : World) (h1 : ER E5 w v1 l1) (h2 : Is w v2 l2) (h3 : Is w v3 l3) (h : ¬ (l1.length ≤ 150 ∧ (1 ≤ l3.length ∧ l3.length ≤ 3) ∧ l2.length ≤ 100)) :
    Calls Try.prog 3 #[v1, v2, v3] w fun e w' => e = .returned (.bool true) ∧ Below w.heap.size w w' := by
  obtain ⟨q1, c1, e1⟩ := h1.form
  obtain ⟨q2, c2, e2⟩ := h2.form
  obtain ⟨q3, c3, e3⟩ := h3.form
  subst e1
  subst e2
  subst e3
  clear h1 h2 h3
  generalize l1.length = n at *
  generalize l2.length = p at *
  generalize l3.length = m at *
  by_cases a1 : (150 : Int) < (n : Int)
  · go_enter Try.func3, Try.ntmps3
    go_wp2_with (go_at_call 4; refine (alive16_any _).mono ?_; rintro e W1 ⟨rfl, hb⟩)
    go_ret
    exact ⟨rfl, hb⟩
  · by_cases a2 : (m : Int) < 1
    · go_enter Try.func3, Try.ntmps3
      go_wp2_with (go_at_call 4; refine (alive16_any _).mono ?_; rintro e W1 ⟨rfl, hb⟩)
      go_ret
      exact ⟨rfl, hb⟩
    · by_cases a3 : (3 : Int) < (m : Int)
      · go_enter Try.func3, Try.ntmps3
        go_wp2_with (go_at_call 4; refine (alive16_any _).mono ?_; rintro e W1 ⟨rfl, hb⟩)
        go_ret
        exact ⟨rfl, hb⟩
      · have a4 : (100 : Int) < (p : Int) := by omega
        go_enter Try.func3, Try.ntmps3
        go_wp2_with (go_at_call 4; refine (alive16_any _).mono ?_; rintro e W1 ⟨rfl, hb⟩)
        go_ret
        exact ⟨rfl, hb⟩
theorem walk {W : World} (v1 : Value) (l1 : List Op5) (S1 : ER E5 W v1 l1) (B1 : ∀ o ∈ l1, Fit5 o) (v2 : Value) (l2 : List Int) (S2 : Is W v2 l2) (B2 : In64 l2) (v3 : Value) (l3 : List Int) (S3 : Is W v3 l3) (B3 : In64 l3) :
    Calls Try.prog 3 #[v1, v2, v3] W fun e w' => e = .returned (.bool true) ∧ Below W.heap.size W w' := by
  by_cases c : l1.length ≤ 150 ∧ (1 ≤ l3.length ∧ l3.length ≤ 3) ∧ l2.length ≤ 100
  · exact bp_in v1 v2 v3 l1 l2 l3 W S1 B1 S2 S3 (fun r hr => (B3 r hr).2) c.1 c.2.1 c.2.2
  · exact bp_out v1 v2 v3 l1 l2 l3 W S1 S2 S3 c

theorem own : ownKnob Try.prog.godebug = none := by kernel_rfl
theorem laidOut : laidOutB Try.prog = true := by kernel_rfl

set_option maxRecDepth 100000 in
theorem lifted (os : Os) (started : os.Started) (H : Type) (enc : TypeId × Value → H) :
    ReturnsInHanded {} Try.checked os 3 .any (Rows.basinPartsSpec.pre6 enc Try.prog Try.f3 Rows.basinPartsRow.domain false) (Rows.basinPartsSpec.post enc Try.prog Try.f3 false true false false) := by
  refine returnsInHanded_of_change (C := Try.checked) own started (by kernel_rfl) Try.func3
    (ChangeSpec.witness6 (enc := enc) (C := Try.checked) false ⟨#[], #[.slice none 0 0, .slice none 0 0, .slice none 0 0], []⟩ 8 (by kernel_rfl) (by kernel_rfl) (by kernel_rfl) (by kernel_rfl)) ?_
  intro W base args ds gs before hval0 hW hcnd _
  have hval : ∀ (j : Nat) t v, Try.f3.params[j]? = some t → args[j]? = some v → Value.okWide Try.prog W .any base t v := hval0
  have hW' := hW
  obtain ⟨p, q, hA0, hV, rfl, hfz, hnd⟩ := hW
  have hA : DataW.TrodAll enc Try.prog W 0 (fun _ => true) true Try.f3.params.toList args.toList ds p := hA0
  rw [Try.params3] at hA hval
  obtain ⟨v0, vs0, d0, ds0, p0, q0, hargs, rfl, rfl, h0, r0⟩ := trodAll_cons hA
  obtain ⟨v1, vs1, d1, ds1, p1, q1, rfl, rfl, rfl, h1, r1⟩ := trodAll_cons r0
  obtain ⟨v2, vs2, d2, ds2, p2, q2, rfl, rfl, rfl, h2, r2⟩ := trodAll_cons r1
  obtain ⟨rfl, rfl, rfl⟩ := trodAll_nil r2
  obtain rfl : args = #[v0, v1, v2] := by cases args; simp_all
  obtain ⟨rfl, rfl⟩ := trodVars_none hV
  have k0 := h0
  have lt0 : ∀ x ∈ p0, x.block < W.heap.size := by obtain ⟨m, hm⟩ := k0; exact DataW.trod_lt m _ _ _ hm
  have k1 := h1
  have lt1 : ∀ x ∈ p1, x.block < W.heap.size := by obtain ⟨m, hm⟩ := k1; exact DataW.trod_lt m _ _ _ hm
  have k2 := h2
  have lt2 : ∀ x ∈ p2, x.block < W.heap.size := by obtain ⟨m, hm⟩ := k2; exact DataW.trod_lt m _ _ _ hm
  obtain ⟨l0_, S0_, B0_⟩ := open_ops16 (hval 0 22 v0 rfl rfl) h0
  obtain ⟨l1_, S1_, B1_⟩ := open_nums (hval 1 23 v1 rfl rfl) h1
  obtain ⟨l2_, S2_, B2_⟩ := open_nums (hval 2 23 v2 rfl rfl) h2
  clear hA0 hval0
  refine (walk v0 l0_ S0_ B0_ v1 l1_ S1_ B1_ v2 l2_ S2_ B2_).mono fun e W' ⟨he, bel⟩ => ?_
  subst he
  exact ⟨_, rfl, _, _, _, [], _, [], hW', trodAll_mk1 (shut_bool Try.underlying4 _), (trodAll_cons_mk (Below.trod laidOut (by kernel_rfl) (of_decide_eq_true (by kernel_rfl)) k0 bel lt0) (trodAll_cons_mk (Below.trod laidOut (by kernel_rfl) (of_decide_eq_true (by kernel_rfl)) k1 bel lt1) (trodAll_cons_mk (Below.trod laidOut (by kernel_rfl) (of_decide_eq_true (by kernel_rfl)) k2 bel lt2) trodAll_mk0))), rfl, bel.frame _, fun h => by cases h⟩

theorem over : Rows.basinPartsRow.holds Try.pinned (OpenSpec.ofChange Rows.basinPartsSpec) :=
  OpenClaim.holds_of_wide 3 Try.f3 rfl rfl rfl rfl rfl rfl rfl ⟨rfl, rfl, rfl, rfl, rfl⟩ rfl rfl rfl rfl rfl (by kernel_rfl) Try.func3 (by kernel_rfl)
    (of_decide_eq_true (by kernel_rfl)) (by unfold Func.isWrapper; first | (rw [if_pos (by decide +kernel)]; kernel_rfl) | (rw [if_neg (by decide +kernel)]; exact ⟨rfl, rfl⟩))
    (fun os started H enc _ => lifted os started H enc)

theorem proved : Rows.BasinPartsSaid := over
end Go.Proofs.Ytfnageillhpjpaa.basinParts
namespace Go.Proofs.Ytfnageillhpjpaa
theorem basinParts_holds : Rows.BasinPartsSaid := basinParts.proved
#print axioms basinParts_holds
end Go.Proofs.Ytfnageillhpjpaa
