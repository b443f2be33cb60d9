/-
  The document's four, Wrap, Unwrap, Split.
-/
import Derived.Test.YtgimkaklocmhkaaFrV
namespace Go.Proofs.Ytgimkaklocmhkaa
open Go.RowKit
set_option linter.unusedVariables false

theorem spl4 (n : Nat) : spl n 4 = [n % 256, n / 256 % 256, n / 65536 % 256, n / 16777216 % 256] := by
  simp [spl]
set_option maxHeartbeats 400000 in
theorem four_ref (n : Nat) (w : World) (hn : n < 4294967296) :
    Calls Try.prog 36 #[.int .u32 ((n : Nat) : Int)] w fun e w' => ∃ v', e = .returned v' ∧ Ow w' w.heap.size v' (spl n 4) ∧ v' ≠ .slice none 0 0 ∧ Below w.heap.size w w' := by
  have HD : Hid (spl n 4 = [n % 256, n / 256 % 256, n / 65536 % 256, n / 16777216 % 256]) := spl4 n
  have h0 : ((n : Nat) : Int) % 256 = ((n % 256 : Nat) : Int) := by omega
  have h1 : ((n : Nat) : Int) / 256 % 256 = ((n / 256 % 256 : Nat) : Int) := by omega
  have h2 : ((n : Nat) : Int) / 65536 % 256 = ((n / 65536 % 256 : Nat) : Int) := by omega
  have h3 : ((n : Nat) : Int) / 16777216 % 256 = ((n / 16777216 % 256 : Nat) : Int) := by omega
  have h3' : ((n : Nat) : Int) / 16777216 = ((n / 16777216 % 256 : Nat) : Int) := by omega
  generalize n % 256 = a0 at HD h0
  generalize n / 256 % 256 = a1 at HD h1
  generalize n / 65536 % 256 = a2 at HD h2
  generalize n / 16777216 % 256 = a3 at HD h3 h3'
  have H0 : Hid (((n : Nat) : Int) % 256 = ((a0 : Nat) : Int)) := h0
  have H1 : Hid (((n : Nat) : Int) / 256 % 256 = ((a1 : Nat) : Int)) := h1
  have H2 : Hid (((n : Nat) : Int) / 65536 % 256 = ((a2 : Nat) : Int)) := h2
  have H3 : Hid (((n : Nat) : Int) / 16777216 % 256 = ((a3 : Nat) : Int)) := h3
  have H4 : Hid (((n : Nat) : Int) / 16777216 = ((a3 : Nat) : Int)) := h3'
  clear h0 h1 h2 h3 h3'
  go_enter Try.func36, Try.ntmps36
  go_wp2_with (refine bs_by rfl rfl [a0, a1, a2, a3] (vs := #[(0, .int .u8 ((a0 : Nat) : Int)), (1, .int .u8 ((a1 : Nat) : Int)), (2, .int .u8 ((a2 : Nat) : Int)), (3, .int .u8 ((a3 : Nat) : Int))]) (by first | (rw [← H0.out, ← H1.out, ← H2.out, ← H3.out]; simp only [List.map_toArray, List.map_cons, List.map_nil]; rfl) | (rw [← H0.out, ← H1.out, ← H2.out, ← H4.out]; simp only [List.map_toArray, List.map_cons, List.map_nil]; rfl)) (bsb4 _ _ _ _ _) rfl (by decide) ?_; intro W1 hN b1 z1)
  go_ret
  refine ⟨_, rfl, ?_, ?_, b1⟩
  · rw [HD.out]; exact ow_of hN
  · intro e; cases e
set_option maxHeartbeats 400000 in
theorem rwrap_no (v : Value) (l : List Nat) (w : World) (hv : Sl w v l) (hno : 16376 < l.length) :
    Calls Try.prog 22 #[v] w fun e w' => e = .returned (.tuple #[.slice none 0 0, .int .i64 7]) ∧ Below w.heap.size w w' := by
  obtain ⟨q, cap, e, -⟩ := id hv
  subst e
  generalize hn : l.length = n at *
  clear hv
  go_enter Try.func22, Try.ntmps22
  go_wp2_with fail
  go_ret2
  exact ⟨rfl, Below.refl _ _⟩
set_option maxHeartbeats 1000000 in
theorem rwrap_ok (v : Value) (l : List Nat) (w : World) (hv : Sl w v l) (hb : Byt l) (hok : l.length ≤ 16376) :
    Calls Try.prog 22 #[v] w fun e w' => ∃ v', e = .returned (.tuple #[v', .int .i64 0]) ∧ Ow w' w.heap.size v' (frm l) ∧ Below w.heap.size w w' := by
  obtain ⟨q, cap, e, -⟩ := id hv
  subst e
  have hsm := sm_lt l
  have HF : Hid (frm l = spl l.length 4 ++ spl (sm l) 4 ++ l) := rfl
  generalize hn : l.length = n at *
  generalize hs : sm l = s at *
  have HSum : Hid (∀ W, Below w.heap.size w W → Calls Try.prog 25 #[.slice q n cap] W fun e w' => e = .returned (.int .u32 ((s : Nat) : Int)) ∧ Below W.heap.size W w') := fun W h => by rw [← hs]; exact rsum_any _ l W (hv.keep h) hb
  go_enter Try.func22, Try.ntmps22
  go_wp2_with fail
  refine (four_ref n _ (by omega)).mono ?_
  rintro e W1 ⟨v1, rfl, HO1, hn1, hb1⟩
  go_wp2_with (go_at_call 25; refine (HSum.out _ hb1).mono ?_; rintro e W2 ⟨rfl, hb2⟩)
  refine (four_ref s _ hsm).mono ?_
  rintro e W3 ⟨v3, rfl, HO3, hn3, hb3⟩
  have HO13 := HO1.keep (ab_trans hb2 hb3)
  have hw3 := ab_trans hb1 (ab_trans hb2 hb3)
  have HL4 : Hid ((spl n 4).length + 4 ≤ 1000000) := by show _ ≤ _; rw [spl_len]; omega
  have HL8 : Hid ((spl s 4).length = 4) := spl_len _ _
  go_upto_region 4 with (at_builtin; refine app_by _ rfl rfl rfl HO13 rfl HO3.sl HL8.out HL4.out hw3 ?_; intro v4 W4 hown4 hnil4 hb4 hgr4 hat4)
  have HO4 := ow_of hown4
  have HL9 : Hid ((spl n 4 ++ spl s 4).length + n ≤ 1000000) := by show _ ≤ _; rw [List.length_append, spl_len, spl_len]; omega
  go_wp2_with (at_builtin; refine app_by _ rfl rfl rfl HO4 rfl (hv.keep hb4) hn HL9.out hb4 ?_; intro v5 W5 hown5 hnil5 hb5 hgr5 hat5)
  go_ret2
  exact ⟨_, rfl, by rw [HF.out]; exact ow_of hown5, hb5⟩
theorem val4 (l : List Nat) (h : 4 ≤ l.length) : val (l.take 4) = l.getD 0 0 + 256 * l.getD 1 0 + 65536 * l.getD 2 0 + 16777216 * l.getD 3 0 := by
  match l, h with
  | a :: b :: c :: d :: r, _ => simp [val]; omega
set_option maxHeartbeats 1000000 in
theorem runwrap_short (v : Value) (l : List Nat) (w : World) (hv : Sl w v l) (h8 : l.length < 8) :
    Calls Try.prog 27 #[v] w fun e w' => e = .returned (.tuple #[.slice none 0 0, .int .i64 0]) ∧ Below w.heap.size w w' := by
  obtain ⟨q, cap, e, -⟩ := id hv
  subst e
  generalize hn : l.length = n at *
  clear hv
  go_enter Try.func27, Try.ntmps27
  go_wp2_with fail
  go_ret2
  exact ⟨rfl, Below.refl _ _⟩
/-- What the document's Unwrap answers. -/
structure UP (W : World) (base : Nat) (l : List Nat) (e : Ending) : Prop where
  ok : insOK l = true → ∃ v', e = .returned (.tuple #[v', .int .i64 ((8 + (insB l).length : Nat) : Int)]) ∧ Ow W base v' (insB l)
  no : insOK l = false → e = .returned (.tuple #[.slice none 0 0, .int .i64 0])
set_option maxHeartbeats 2000000 in
theorem runwrap_long (v : Value) (l : List Nat) (w : World) (hv : Sl w v l) (hb : Byt l) (hl : l.length ≤ 100000) (h8 : 8 ≤ l.length) :
    Calls Try.prog 27 #[v] w fun e w' => UP w' w.heap.size l e ∧ Below w.heap.size w w' := by
  obtain ⟨q, cap, g, off, rfl, hc, hm, hp, hg, hr⟩ := hv.open
  obtain rfl := hp (by omega)
  have hg1 := hg (by omega)
  have d0 := hr 0 _ (getD_at (by omega))
  have d1 := hr 1 _ (getD_at (by omega))
  have d2 := hr 2 _ (getD_at (by omega))
  have d3 := hr 3 _ (getD_at (by omega))
  have b0 := hb.getD 0
  have b1 := hb.getD 1
  have b2 := hb.getD 2
  have b3 := hb.getD 3
  have HV := val4 l (by omega)
  have HOK : Hid (insOK l = true ↔ 8 ≤ l.length ∧ val (l.take 4) ≤ 16376 ∧ val (l.take 4) ≤ l.length - 8 ∧ sm (insB l) = val ((l.drop 4).take 4)) := insOK_iff l
  have HIO : Hid (val (l.take 4) ≤ 16376 → val (l.take 4) ≤ l.length - 8 → (frm (insB l) = l.take (8 + val (l.take 4)) ↔ insOK l = true)) := fun h1 h2 => ins_of hb h8 h1 h2
  have HIB : Hid (insB l = (l.drop 8).take (val (l.take 4))) := rfl
  have HIL : Hid (insOK l = true → (insB l).length = val (l.take 4)) := fun h => insB_len h
  generalize hc4 : val (l.take 4) = c at *
  generalize l.getD 0 0 = x0 at *
  generalize l.getD 1 0 = x1 at *
  generalize l.getD 2 0 = x2 at *
  generalize l.getD 3 0 = x3 at *
  generalize hn : l.length = n at *
  have hval : (x0 : Int) + 256 * (x1 : Int) + 65536 * (x2 : Int) + 16777216 * (x3 : Int) = ((c : Nat) : Int) := by omega
  rw [Nat.add_zero] at d0
  have y0 := cls_cell d0 hg1
  have y1 := cls_cell d1 hg1
  have y2 := cls_cell d2 hg1
  have y3 := cls_cell d3 hg1
  have hcb : c < 4294967296 := by omega
  clear hr hp hg HV
  go_enter Try.func27, Try.ntmps27
  go_upto_region 3 with fail
  refine wp_region_below (by kernel_rfl) (by kernel_rfl) ?_
  have HZ := cls_some w
  repeat (go_big_quiet_step (fail))
  refine wpQuiet_nil ?_
  rintro _ ⟨y, rfl⟩
  obtain ⟨V1, hb1⟩ := y
  dsimp only
  clear y0 y1 y2 y3 HZ d0 d1 d2 d3
  have hv1 := hv.keep hb1
  by_cases c1 : c ≤ n - 8
  · have c1i : ¬ (n : Int) - 8 < (c : Int) := by omega
    obtain ⟨q2, e2⟩ := sliced_form (some ⟨g, off, none⟩) 8 (8 + c) cap
    have s2 := hv1.sub (i := 8) (j := 8 + c) (by omega) (by omega) (Nat.le_refl _) (by omega) e2.symm
    rw [Nat.add_sub_cancel_left] at s2 e2
    rw [← HIB.out] at s2
    have HLI : Hid ((insB l).length = c) := by show _ = _; rw [HIB.out, List.length_take, List.length_drop]; omega
    have hbI : Byt (insB l) := by rw [HIB.out]; exact (hb.drop 8).take c
    by_cases c2 : c ≤ 16376
    · go_upto_region 7 with (first
        | (refine slb_lh rfl rfl 8 (8 + c) rfl rfl rfl rfl (by omega) (by omega) (by omega) hv1 ?_; intro q3 s3; rw [Nat.add_sub_cancel_left, ← HIB.out] at s3)
        | (go_at_call 22; refine (rwrap_ok _ _ _ s3 hbI (by rw [HLI.out]; exact c2)).mono ?_; rintro e V2 ⟨v2, rfl, HO2, hb2⟩))
      obtain ⟨q4, e4⟩ := sliced_form (some ⟨g, off, none⟩) 0 (8 + c) cap
      have s4 := (hv1.keep hb2).sub (i := 0) (j := 8 + c) (by omega) (by omega) (Nat.le_refl _) (by omega) e4.symm
      rw [List.drop_zero, Nat.sub_zero] at s4
      have hvV := hv1.keep hb2
      have hbV2 := ab_trans hb1 hb2
      have HB1 : Hid (Byt (frm (insB l))) := frm_byt hbI
      have HB2 : Hid (Byt (l.take (8 + c))) := hb.take _
      cases hok : insOK l with
      | true =>
        have HFE : Hid (frm (insB l) = l.take (8 + c)) := (HIO.out c2 c1).2 hok
        refine wp_region_held_drew (S := fun w' => Below V2.heap.size V2 w') (by kernel_rfl) (ab_drew (Below.refl _ _)) (fun hHeld => ?_)
        refine takeH (i := 0) (some 45) rfl rfl (by kernel_rfl) (by kernel_rfl) (by kernel_rfl) (fun _ _ _ h => h) (by rfl) (fun w hSw => by (try dsimp only at hSw); go_simp; try rfl) hHeld ?_
        go_frame
        refine takeH (i := 1) (some 46) rfl rfl (by kernel_rfl) (by kernel_rfl) (by kernel_rfl) (fun _ _ _ h => h) (by rfl) (fun w hSw => by (try dsimp only at hSw); go_simp; try rfl) hHeld ?_
        go_frame
        refine takeH (i := 2) (some 47) rfl rfl (by kernel_rfl) (by kernel_rfl) (by kernel_rfl) (fun _ _ _ h => h) (by rfl) (fun w hSw => by (try dsimp only at hSw); go_simp; try rfl) hHeld ?_
        go_frame
        refine takeH (i := 3) (some 48) rfl rfl (by kernel_rfl) (by kernel_rfl) (by kernel_rfl) (fun _ _ _ h => h) (by rfl) (fun w hSw => by (try dsimp only at hSw); go_simp; try rfl) hHeld ?_
        go_frame
        refine takeH (i := 4) (some 49) rfl rfl (by kernel_rfl) (by kernel_rfl) (by kernel_rfl) (fun _ _ _ h => h) (by rfl) (fun w hSw => by (try dsimp only at hSw); exact cv_run (x := .tmp 48) rfl rfl (HO2.sl.keep hSw)) hHeld ?_
        go_frame
        refine takeH (i := 5) (some 50) rfl rfl (by kernel_rfl) (by kernel_rfl) (by kernel_rfl) (fun _ _ _ h => h) (by rfl) (fun w hSw => by (try dsimp only at hSw); go_simp; try rfl) hHeld ?_
        go_frame
        refine takeH (i := 6) (some 51) rfl rfl (by kernel_rfl) (by kernel_rfl) (by kernel_rfl) (fun _ _ _ h => h) (by rfl) (fun w hSw => by (try dsimp only at hSw); go_simp; try rfl) hHeld ?_
        go_frame
        refine takeH (i := 7) (some 52) rfl rfl (by kernel_rfl) (by kernel_rfl) (by kernel_rfl) (fun _ _ _ h => h) (by rfl) (fun w hSw => by (try dsimp only at hSw); go_simp; try rfl) hHeld ?_
        go_frame
        refine takeH (i := 8) (some 53) rfl rfl (by kernel_rfl) (by kernel_rfl) (by kernel_rfl) (fun _ _ _ h => h) (by rfl) (fun w hSw => by (try dsimp only at hSw); exact (slb_h_run (j := 8 + c) rfl rfl rfl (by first | rfl | omega | (rw [IntWalk.i64_left]; unfold wrap64; omega)) (by omega)).trans (by rw [e4])) hHeld ?_
        go_frame
        refine takeH (i := 9) (some 54) rfl rfl (by kernel_rfl) (by kernel_rfl) (by kernel_rfl) (fun _ _ _ h => h) (by rfl) (fun w hSw => by (try dsimp only at hSw); exact cv_run (x := .tmp 53) rfl rfl (s4.keep hSw)) hHeld ?_
        go_frame
        rw [HFE.out]
        refine takeH (i := 10) (some 55) rfl rfl (by kernel_rfl) (by kernel_rfl) (by kernel_rfl) (fun _ _ _ h => h) (by rfl) (fun w hSw => by (try dsimp only at hSw); go_simp; try rfl) hHeld ?_
        go_frame
        refine takeH (i := 11) (some 56) rfl rfl (by kernel_rfl) (by kernel_rfl) (by kernel_rfl) (fun _ _ _ h => h) (by rfl) (fun w hSw => by (try dsimp only at hSw); go_simp; try rfl) hHeld ?_
        go_frame
        refine wpAnyH_done (by kernel_rfl) ?_ _
        go_wp2_with (first
          | (refine bs_by rfl rfl [] (vs := #[]) (by simp) (bsb0 _) rfl (by decide) ?_; intro W3 hN3 hb3 z3)
          | (refine slb_lh rfl rfl 8 (8 + c) rfl rfl rfl rfl (by omega) (by omega) (by omega) (hvV.keep (ab_trans hHeld hb3)) ?_; intro q5 s5; have s6 : Sl W3 (.slice q5 (8 + c - 8) (cap - 8)) (insB l) := (by have h := s5; rw [Nat.add_sub_cancel_left] at h ⊢; rw [HIB.out]; exact h))
          | (at_builtin; (first | refine app_by V2.drew rfl rfl rfl hN3 rfl s6 HLI.out (by omega) hb3 ?_ | refine app_by V2.drew rfl rfl rfl hN3 rfl (by have h := s6; rw [Nat.add_sub_cancel_left] at h; exact h) HLI.out (by omega) hb3 ?_); intro v6 W6 hown6 hnil6 hb6 hgr6 hat6))
        go_ret2
        refine ⟨⟨fun _ => ⟨v6, ?_, ?_⟩, fun h => by rw [hok] at h; cases h⟩, ab_trans hbV2 (ab_trans hHeld hb6)⟩
        · rw [HLI.out]; rfl
        · have := ow_of hown6
          rw [List.nil_append] at this
          exact this.less (Nat.le_trans hbV2.size hHeld.size)
      | false =>
        have hne : strB (frm (insB l)) ≠ strB (l.take (8 + c)) := fun h => by
          have := (HIO.out c2 c1).1 (strB_inj HB1.out HB2.out h)
          rw [hok] at this
          cases this
        have hneb := strB_ne hne
        refine wp_region_held_drew (S := fun w' => Below V2.heap.size V2 w') (by kernel_rfl) (ab_drew (Below.refl _ _)) (fun hHeld => ?_)
        refine takeH (i := 0) (some 45) rfl rfl (by kernel_rfl) (by kernel_rfl) (by kernel_rfl) (fun _ _ _ h => h) (by rfl) (fun w hSw => by (try dsimp only at hSw); go_simp; try rfl) hHeld ?_
        go_frame
        refine takeH (i := 1) (some 46) rfl rfl (by kernel_rfl) (by kernel_rfl) (by kernel_rfl) (fun _ _ _ h => h) (by rfl) (fun w hSw => by (try dsimp only at hSw); go_simp; try rfl) hHeld ?_
        go_frame
        refine takeH (i := 2) (some 47) rfl rfl (by kernel_rfl) (by kernel_rfl) (by kernel_rfl) (fun _ _ _ h => h) (by rfl) (fun w hSw => by (try dsimp only at hSw); go_simp; try rfl) hHeld ?_
        go_frame
        refine takeH (i := 3) (some 48) rfl rfl (by kernel_rfl) (by kernel_rfl) (by kernel_rfl) (fun _ _ _ h => h) (by rfl) (fun w hSw => by (try dsimp only at hSw); go_simp; try rfl) hHeld ?_
        go_frame
        refine takeH (i := 4) (some 49) rfl rfl (by kernel_rfl) (by kernel_rfl) (by kernel_rfl) (fun _ _ _ h => h) (by rfl) (fun w hSw => by (try dsimp only at hSw); exact cv_run (x := .tmp 48) rfl rfl (HO2.sl.keep hSw)) hHeld ?_
        go_frame
        refine takeH (i := 5) (some 50) rfl rfl (by kernel_rfl) (by kernel_rfl) (by kernel_rfl) (fun _ _ _ h => h) (by rfl) (fun w hSw => by (try dsimp only at hSw); go_simp; try rfl) hHeld ?_
        go_frame
        refine takeH (i := 6) (some 51) rfl rfl (by kernel_rfl) (by kernel_rfl) (by kernel_rfl) (fun _ _ _ h => h) (by rfl) (fun w hSw => by (try dsimp only at hSw); go_simp; try rfl) hHeld ?_
        go_frame
        refine takeH (i := 7) (some 52) rfl rfl (by kernel_rfl) (by kernel_rfl) (by kernel_rfl) (fun _ _ _ h => h) (by rfl) (fun w hSw => by (try dsimp only at hSw); go_simp; try rfl) hHeld ?_
        go_frame
        refine takeH (i := 8) (some 53) rfl rfl (by kernel_rfl) (by kernel_rfl) (by kernel_rfl) (fun _ _ _ h => h) (by rfl) (fun w hSw => by (try dsimp only at hSw); exact (slb_h_run (j := 8 + c) rfl rfl rfl (by first | rfl | omega | (rw [IntWalk.i64_left]; unfold wrap64; omega)) (by omega)).trans (by rw [e4])) hHeld ?_
        go_frame
        refine takeH (i := 9) (some 54) rfl rfl (by kernel_rfl) (by kernel_rfl) (by kernel_rfl) (fun _ _ _ h => h) (by rfl) (fun w hSw => by (try dsimp only at hSw); exact cv_run (x := .tmp 53) rfl rfl (s4.keep hSw)) hHeld ?_
        go_frame
        refine takeH (i := 10) (some 55) rfl rfl (by kernel_rfl) (by kernel_rfl) (by kernel_rfl) (fun _ _ _ h => h) (by rfl) (fun w hSw => by (try dsimp only at hSw); go_simp; try rfl) hHeld ?_
        go_frame
        refine takeH (i := 11) (some 56) rfl rfl (by kernel_rfl) (by kernel_rfl) (by kernel_rfl) (fun _ _ _ h => h) (by rfl) (fun w hSw => by (try dsimp only at hSw); go_simp; try rfl) hHeld ?_
        go_frame
        refine wpAnyH_done (by kernel_rfl) ?_ _
        go_wp2_with fail
        go_ret2
        exact ⟨⟨fun h => (by rw [hok] at h; cases h), fun _ => rfl⟩, ab_trans hbV2 hHeld⟩
    · have hno : insOK l = false := by
        cases h : insOK l with
        | false => rfl
        | true => exact absurd (HOK.out.1 h).2.1 (by omega)
      go_upto_region 7 with (first
        | (refine slb_lh rfl rfl 8 (8 + c) rfl rfl rfl rfl (by omega) (by omega) (by omega) hv1 ?_; intro q3 s3; rw [Nat.add_sub_cancel_left, ← HIB.out] at s3)
        | (go_at_call 22; refine (rwrap_no _ _ _ s3 (by rw [HLI.out]; omega)).mono ?_; rintro e V2 ⟨rfl, hb2⟩))
      refine wp_region_below (by kernel_rfl) (by kernel_rfl) ?_
      have HZ := cls_some V2
      repeat (go_big_quiet_step (fail))
      refine wpQuiet_nil ?_
      rintro _ ⟨y, rfl⟩
      obtain ⟨V9, hb9⟩ := y
      dsimp only
      go_wp2_with fail
      go_ret2
      exact ⟨⟨fun h => (by rw [hno] at h; cases h), fun _ => rfl⟩, ab_trans hb1 (ab_trans hb2 hb9)⟩
  · have c1i : (n : Int) - 8 < (c : Int) := by omega
    have hno : insOK l = false := by
      cases h : insOK l with
      | false => rfl
      | true => exact absurd (HOK.out.1 h).2.2.1 (by omega)
    go_wp2_with fail
    go_ret2
    exact ⟨⟨fun h => (by rw [hno] at h; cases h), fun _ => rfl⟩, hb1⟩
theorem runwrap_any (v : Value) (l : List Nat) (w : World) (hv : Sl w v l) (hb : Byt l) (hl : l.length ≤ 100000) :
    Calls Try.prog 27 #[v] w fun e w' => UP w' w.heap.size l e ∧ Below w.heap.size w w' := by
  by_cases h8 : 8 ≤ l.length
  · exact runwrap_long v l w hv hb hl h8
  · refine (runwrap_short v l w hv (by omega)).mono fun e w' ⟨h1, h2⟩ => ⟨⟨fun h => absurd ((insOK_iff l).1 h).1 h8, fun _ => h1⟩, h2⟩
set_option maxHeartbeats 1000000 in
theorem rsplit_any (v : Value) (l : List Nat) (w : World) (hv : Sl w v l) (hb : Byt l) (hl : l.length ≤ 100000) :
    Calls Try.prog 29 #[v] w fun e w' => ∃ v' vs, e = .returned (.tuple #[v', .int .i64 ((spN (spt l) : Nat) : Int)]) ∧ Lis w' w.heap.size v' vs (spt l) ∧ Below w.heap.size w w' := by
  obtain ⟨q, cap, g, off, rfl, hc, hm, hp, hg, hr⟩ := hv.open
  clear hp hg hr
  generalize hn : l.length = n at *
  go_enter Try.func29, Try.ntmps29
  go_wp2_with fail
  go_loopw [4, 5] (fun x i wr => ∃ fs vs, i = .int .i64 ((spN fs : Nat) : Int) ∧ spN fs ≤ n ∧ spt l = fs ++ spt (l.drop (spN fs)) ∧ Lis wr w.heap.size x vs fs ∧ Below w.heap.size w wr) (fun _ i _ => n - numOf i)
  case atStart => exact ⟨[], [], rfl, by simp [spN], by simp [spN], Lis.nil w _, Below.refl _ _⟩
  case round =>
    obtain ⟨fs, vs, rfl, hat, HSP, HL, hbw⟩ := hrel
    have HSP' : Hid (spt l = fs ++ spt (l.drop (spN fs))) := HSP
    clear HSP
    have hvr := hv.keep hbw
    have hbd := hb.drop (spN fs)
    have hlen : (l.drop (spN fs)).length = n - spN fs := by rw [List.length_drop, hn]
    have hfl := spN_len fs
    cases hok : insOK (l.drop (spN fs)) with
    | false =>
      have HE : Hid (spt l = fs) := by show _ = _; rw [HSP'.out, spt_stop hok, List.append_nil]
      generalize hA : spN fs = A at *
      go_wp2_with (first
        | (refine slb_l rfl rfl A rfl rfl rfl hat hvr ?_; intro q2 s2)
        | (go_at_call 27; refine (runwrap_any _ _ _ s2 hbd (by rw [hlen]; omega)).mono ?_; rintro e W2 ⟨hup, hb2⟩; obtain rfl := hup.no hok; clear hup))
      go_ret2
      rw [HE.out, hA]
      exact ⟨_, vs, rfl, HL.keep hb2, ab_trans hbw hb2⟩
    | true =>
      have HE := spt_at l fs HSP'.out hok
      have hile := insB_le hok
      have HE' : Hid (spt l = (fs ++ [insB (l.drop (spN fs))]) ++ spt (l.drop (spN (fs ++ [insB (l.drop (spN fs))])))) := HE
      clear HE
      have HN : Hid (spN (fs ++ [insB (l.drop (spN fs))]) = spN fs + (8 + (insB (l.drop (spN fs))).length)) := spN_snoc _ _
      rw [hlen] at hile
      generalize hA : spN fs = A at *
      have HU : Hid (∀ q2 W, Sl W (.slice q2 (n - A) (cap - A)) (l.drop A) → Calls Try.prog 27 #[.slice q2 (n - A) (cap - A)] W fun e w' => ∃ v', e = .returned (.tuple #[v', .int .i64 ((8 + (insB (l.drop A)).length : Nat) : Int)]) ∧ Ow w' W.heap.size v' (insB (l.drop A)) ∧ Below W.heap.size W w') := fun q2 W h => (runwrap_any _ _ W h hbd (by rw [hlen]; omega)).mono fun e w' ⟨h1, h2⟩ => by
        obtain ⟨v', h3, h4⟩ := h1.ok hok
        exact ⟨v', h3, h4, h2⟩
      generalize hF : insB (l.drop A) = F at *
      clear hok hbd hlen
      generalize hFl : F.length = m at *
      have HFm : Hid (F.length = m) := hFl
      clear hFl
      have hm0 : ((8 + (m : Int)) == 0) = false := by simp; omega
      go_wp2_with (first
        | (refine slb_l rfl rfl A rfl rfl rfl hat hvr ?_; intro q2 s2)
        | (go_at_call 27; refine (HU.out _ _ s2).mono ?_; rintro e W2 ⟨v3, rfl, HO3, hb2⟩; obtain ⟨q5, cap5, e5⟩ := HO3.form; rw [HFm.out] at e5; subst e5)
        | (refine bs_ls rfl rfl [_] [F] (by simp only [List.map_toArray, List.map_cons, List.map_nil]; rfl) (bsl1 _ _ _ _) rfl (by decide) rfl (each1 HO3.sl) ?_; intro W4 hls4 hb4 hbk4)
        | (at_builtin; refine app1 w rfl rfl rfl (own_keep HL.row (ab_trans hb2 hb4)) rfl ⟨_, _, _, rfl⟩ (hbk4.at (i := 0) rfl) (by omega) (ab_trans hbw (ab_trans hb2 hb4)) ?_; intro v6 W6 hown6 hnn6 hb6 hgr6 hat6))
      refine ⟨⟨fs ++ [F], vs ++ [_], ?_, ?_, HE'.out, HL.snoc (ab_trans hb2 hb4) (HO3.keep hb4) hbw.size hown6 hgr6 hat6, hb6⟩, ?_⟩
      · rw [HN.out]; congr 1
      · rw [HN.out]; omega
      · simp only [numOf]; omega
end Go.Proofs.Ytgimkaklocmhkaa
