/-
  The document's four, Wrap, Unwrap, Split.
  estuaryref05.Good.
  estuaryref05.List and Encode.
  The document's Nums.
-/
import Derived.Test.YtjbhicjnnghjjaaPk17
import Derived.Test.YtjbhicjnnghjjaaPk16
import Derived.Deep.CutRange
import Derived.Deep.CutBlock
import Derived.Test.YtjbhicjnnghjjaaPk11
import Derived.Test.YtjbhicjnnghjjaaPk09
namespace Go.Proofs.Ytjbhicjnnghjjaa
open Go.RowKit
set_option linter.unusedVariables false

theorem spl4 (n : Nat) : spl n 4 = [n % 256, n / 256 % 256, n / 65536 % 256, n / 16777216 % 256] := by
  simp [spl]
set_option maxHeartbeats 400000 in
theorem four_ref (n : Nat) (w : World) (hn : n < 4294967296) :
    Calls Try.prog 53 #[.int .u32 ((n : Nat) : Int)] w fun e w' => ∃ v', e = .returned v' ∧ Ow w' w.heap.size v' (spl n 4) ∧ v' ≠ .slice none 0 0 ∧ Below w.heap.size w w' := by
  have HD : Hid (spl n 4 = [n % 256, n / 256 % 256, n / 65536 % 256, n / 16777216 % 256]) := spl4 n
  have h0 : ((n : Nat) : Int) % 256 = ((n % 256 : Nat) : Int) := by omega
  have h1 : ((n : Nat) : Int) / 256 % 256 = ((n / 256 % 256 : Nat) : Int) := by omega
  have h2 : ((n : Nat) : Int) / 65536 % 256 = ((n / 65536 % 256 : Nat) : Int) := by omega
  have h3 : ((n : Nat) : Int) / 16777216 % 256 = ((n / 16777216 % 256 : Nat) : Int) := by omega
  have h3' : ((n : Nat) : Int) / 16777216 = ((n / 16777216 % 256 : Nat) : Int) := by omega
  generalize n % 256 = a0 at HD h0
  generalize n / 256 % 256 = a1 at HD h1
  generalize n / 65536 % 256 = a2 at HD h2
  generalize n / 16777216 % 256 = a3 at HD h3 h3'
  have H0 : Hid (((n : Nat) : Int) % 256 = ((a0 : Nat) : Int)) := h0
  have H1 : Hid (((n : Nat) : Int) / 256 % 256 = ((a1 : Nat) : Int)) := h1
  have H2 : Hid (((n : Nat) : Int) / 65536 % 256 = ((a2 : Nat) : Int)) := h2
  have H3 : Hid (((n : Nat) : Int) / 16777216 % 256 = ((a3 : Nat) : Int)) := h3
  have H4 : Hid (((n : Nat) : Int) / 16777216 = ((a3 : Nat) : Int)) := h3'
  clear h0 h1 h2 h3 h3'
  go_enter Try.func53, Try.ntmps53
  go_wp2_with (refine bs_by rfl rfl [a0, a1, a2, a3] (vs := #[(0, .int .u8 ((a0 : Nat) : Int)), (1, .int .u8 ((a1 : Nat) : Int)), (2, .int .u8 ((a2 : Nat) : Int)), (3, .int .u8 ((a3 : Nat) : Int))]) (by first | (rw [← H0.out, ← H1.out, ← H2.out, ← H3.out]; simp only [List.map_toArray, List.map_cons, List.map_nil]; rfl) | (rw [← H0.out, ← H1.out, ← H2.out, ← H4.out]; simp only [List.map_toArray, List.map_cons, List.map_nil]; rfl)) (bsb4 _ _ _ _ _) rfl (by decide) ?_; intro W1 hN b1 z1)
  go_ret
  refine ⟨_, rfl, ?_, ?_, b1⟩
  · rw [HD.out]; exact ow_of hN
  · intro e; cases e
set_option maxHeartbeats 400000 in
theorem rwrap_no (v : Value) (l : List Nat) (w : World) (hv : Sl w v l) (hno : 16376 < l.length) :
    Calls Try.prog 30 #[v] w fun e w' => e = .returned (.tuple #[.slice none 0 0, .int .i64 7]) ∧ Below w.heap.size w w' := by
  obtain ⟨q, cap, e, -⟩ := id hv
  subst e
  generalize hn : l.length = n at *
  clear hv
  go_enter Try.func30, Try.ntmps30
  go_wp2_with fail
  go_ret2
  exact ⟨rfl, Below.refl _ _⟩
set_option maxHeartbeats 1000000 in
theorem rwrap_ok (v : Value) (l : List Nat) (w : World) (hv : Sl w v l) (hb : Byt l) (hok : l.length ≤ 16376) :
    Calls Try.prog 30 #[v] w fun e w' => ∃ v', e = .returned (.tuple #[v', .int .i64 0]) ∧ Ow w' w.heap.size v' (frm l) ∧ Below w.heap.size w w' := by
  obtain ⟨q, cap, e, -⟩ := id hv
  subst e
  have hsm := sm_lt l
  have HF : Hid (frm l = spl l.length 4 ++ spl (sm l) 4 ++ l) := rfl
  generalize hn : l.length = n at *
  generalize hs : sm l = s at *
  have HSum : Hid (∀ W, Below w.heap.size w W → Calls Try.prog 54 #[.slice q n cap] W fun e w' => e = .returned (.int .u32 ((s : Nat) : Int)) ∧ Below W.heap.size W w') := fun W h => by rw [← hs]; exact rsum_any _ l W (hv.keep h) hb
  go_enter Try.func30, Try.ntmps30
  go_wp2_with fail
  refine (four_ref n _ (by omega)).mono ?_
  rintro e W1 ⟨v1, rfl, HO1, hn1, hb1⟩
  go_wp2_with (go_at_call 54; refine (HSum.out _ hb1).mono ?_; rintro e W2 ⟨rfl, hb2⟩)
  refine (four_ref s _ hsm).mono ?_
  rintro e W3 ⟨v3, rfl, HO3, hn3, hb3⟩
  have HO13 := HO1.keep (ab_trans hb2 hb3)
  have hw3 := ab_trans hb1 (ab_trans hb2 hb3)
  have HL4 : Hid ((spl n 4).length + 4 ≤ 1000000) := by show _ ≤ _; rw [spl_len]; omega
  have HL8 : Hid ((spl s 4).length = 4) := spl_len _ _
  go_upto_region 4 with (at_builtin; refine app_by _ rfl rfl rfl HO13 rfl HO3.sl HL8.out HL4.out hw3 ?_; intro v4 W4 hown4 hnil4 hb4 hgr4 hat4)
  have HO4 := ow_of hown4
  have HL9 : Hid ((spl n 4 ++ spl s 4).length + n ≤ 1000000) := by show _ ≤ _; rw [List.length_append, spl_len, spl_len]; omega
  go_wp2_with (at_builtin; refine app_by _ rfl rfl rfl HO4 rfl (hv.keep hb4) hn HL9.out hb4 ?_; intro v5 W5 hown5 hnil5 hb5 hgr5 hat5)
  go_ret2
  exact ⟨_, rfl, by rw [HF.out]; exact ow_of hown5, hb5⟩
theorem val4 (l : List Nat) (h : 4 ≤ l.length) : val (l.take 4) = l.getD 0 0 + 256 * l.getD 1 0 + 65536 * l.getD 2 0 + 16777216 * l.getD 3 0 := by
  match l, h with
  | a :: b :: c :: d :: r, _ => simp [val]; omega
set_option maxHeartbeats 1000000 in
theorem runwrap_short (v : Value) (l : List Nat) (w : World) (hv : Sl w v l) (h8 : l.length < 8) :
    Calls Try.prog 39 #[v] w fun e w' => e = .returned (.tuple #[.slice none 0 0, .int .i64 0]) ∧ Below w.heap.size w w' := by
  obtain ⟨q, cap, e, -⟩ := id hv
  subst e
  generalize hn : l.length = n at *
  clear hv
  go_enter Try.func39, Try.ntmps39
  go_wp2_with fail
  go_ret2
  exact ⟨rfl, Below.refl _ _⟩
/-- What the document's Unwrap answers. -/
structure UP (W : World) (base : Nat) (l : List Nat) (e : Ending) : Prop where
  ok : insOK l = true → ∃ v', e = .returned (.tuple #[v', .int .i64 ((8 + (insB l).length : Nat) : Int)]) ∧ Ow W base v' (insB l)
  no : insOK l = false → e = .returned (.tuple #[.slice none 0 0, .int .i64 0])
set_option maxHeartbeats 2000000 in
theorem runwrap_long (v : Value) (l : List Nat) (w : World) (hv : Sl w v l) (hb : Byt l) (hl : l.length ≤ 100000) (h8 : 8 ≤ l.length) :
    Calls Try.prog 39 #[v] w fun e w' => UP w' w.heap.size l e ∧ Below w.heap.size w w' := by
  obtain ⟨q, cap, g, off, rfl, hc, hm, hp, hg, hr⟩ := hv.open
  obtain rfl := hp (by omega)
  have hg1 := hg (by omega)
  have d0 := hr 0 _ (getD_at (by omega))
  have d1 := hr 1 _ (getD_at (by omega))
  have d2 := hr 2 _ (getD_at (by omega))
  have d3 := hr 3 _ (getD_at (by omega))
  have b0 := hb.getD 0
  have b1 := hb.getD 1
  have b2 := hb.getD 2
  have b3 := hb.getD 3
  have HV := val4 l (by omega)
  have HOK : Hid (insOK l = true ↔ 8 ≤ l.length ∧ val (l.take 4) ≤ 16376 ∧ val (l.take 4) ≤ l.length - 8 ∧ sm (insB l) = val ((l.drop 4).take 4)) := insOK_iff l
  have HIO : Hid (val (l.take 4) ≤ 16376 → val (l.take 4) ≤ l.length - 8 → (frm (insB l) = l.take (8 + val (l.take 4)) ↔ insOK l = true)) := fun h1 h2 => ins_of hb h8 h1 h2
  have HIB : Hid (insB l = (l.drop 8).take (val (l.take 4))) := rfl
  have HIL : Hid (insOK l = true → (insB l).length = val (l.take 4)) := fun h => insB_len h
  generalize hc4 : val (l.take 4) = c at *
  generalize l.getD 0 0 = x0 at *
  generalize l.getD 1 0 = x1 at *
  generalize l.getD 2 0 = x2 at *
  generalize l.getD 3 0 = x3 at *
  generalize hn : l.length = n at *
  have hval : (x0 : Int) + 256 * (x1 : Int) + 65536 * (x2 : Int) + 16777216 * (x3 : Int) = ((c : Nat) : Int) := by omega
  rw [Nat.add_zero] at d0
  have y0 := cls_cell d0 hg1
  have y1 := cls_cell d1 hg1
  have y2 := cls_cell d2 hg1
  have y3 := cls_cell d3 hg1
  have hcb : c < 4294967296 := by omega
  clear hr hp hg HV
  go_enter Try.func39, Try.ntmps39
  go_upto_region 3 with fail
  refine wp_region_below (by kernel_rfl) (by kernel_rfl) ?_
  have HZ := cls_some w
  repeat (go_big_quiet_step (fail))
  refine wpQuiet_nil ?_
  rintro _ ⟨y, rfl⟩
  obtain ⟨V1, hb1⟩ := y
  dsimp only
  clear y0 y1 y2 y3 HZ d0 d1 d2 d3
  have hv1 := hv.keep hb1
  by_cases c1 : c ≤ n - 8
  · have c1i : ¬ (n : Int) - 8 < (c : Int) := by omega
    obtain ⟨q2, e2⟩ := sliced_form (some ⟨g, off, none⟩) 8 (8 + c) cap
    have s2 := hv1.sub (i := 8) (j := 8 + c) (by omega) (by omega) (Nat.le_refl _) (by omega) e2.symm
    rw [Nat.add_sub_cancel_left] at s2 e2
    rw [← HIB.out] at s2
    have HLI : Hid ((insB l).length = c) := by show _ = _; rw [HIB.out, List.length_take, List.length_drop]; omega
    have hbI : Byt (insB l) := by rw [HIB.out]; exact (hb.drop 8).take c
    by_cases c2 : c ≤ 16376
    · go_upto_region 7 with (first
        | (refine slb_lh rfl rfl 8 (8 + c) rfl rfl rfl rfl (by omega) (by omega) (by omega) hv1 ?_; intro q3 s3; rw [Nat.add_sub_cancel_left, ← HIB.out] at s3)
        | (go_at_call 30; refine (rwrap_ok _ _ _ s3 hbI (by rw [HLI.out]; exact c2)).mono ?_; rintro e V2 ⟨v2, rfl, HO2, hb2⟩))
      obtain ⟨q4, e4⟩ := sliced_form (some ⟨g, off, none⟩) 0 (8 + c) cap
      have s4 := (hv1.keep hb2).sub (i := 0) (j := 8 + c) (by omega) (by omega) (Nat.le_refl _) (by omega) e4.symm
      rw [List.drop_zero, Nat.sub_zero] at s4
      have hvV := hv1.keep hb2
      have hbV2 := ab_trans hb1 hb2
      have HB1 : Hid (Byt (frm (insB l))) := frm_byt hbI
      have HB2 : Hid (Byt (l.take (8 + c))) := hb.take _
      cases hok : insOK l with
      | true =>
        have HFE : Hid (frm (insB l) = l.take (8 + c)) := (HIO.out c2 c1).2 hok
        refine wp_region_held_drew (S := fun w' => Below V2.heap.size V2 w') (by kernel_rfl) (ab_drew (Below.refl _ _)) (fun hHeld => ?_)
        refine takeH (i := 0) (some 45) rfl rfl (by kernel_rfl) (by kernel_rfl) (by kernel_rfl) (fun _ _ _ h => h) (by rfl) (fun w hSw => by (try dsimp only at hSw); go_simp; try rfl) hHeld ?_
        go_frame
        refine takeH (i := 1) (some 46) rfl rfl (by kernel_rfl) (by kernel_rfl) (by kernel_rfl) (fun _ _ _ h => h) (by rfl) (fun w hSw => by (try dsimp only at hSw); go_simp; try rfl) hHeld ?_
        go_frame
        refine takeH (i := 2) (some 47) rfl rfl (by kernel_rfl) (by kernel_rfl) (by kernel_rfl) (fun _ _ _ h => h) (by rfl) (fun w hSw => by (try dsimp only at hSw); go_simp; try rfl) hHeld ?_
        go_frame
        refine takeH (i := 3) (some 48) rfl rfl (by kernel_rfl) (by kernel_rfl) (by kernel_rfl) (fun _ _ _ h => h) (by rfl) (fun w hSw => by (try dsimp only at hSw); go_simp; try rfl) hHeld ?_
        go_frame
        refine takeH (i := 4) (some 49) rfl rfl (by kernel_rfl) (by kernel_rfl) (by kernel_rfl) (fun _ _ _ h => h) (by rfl) (fun w hSw => by (try dsimp only at hSw); exact cv_run (x := .tmp 48) rfl rfl (HO2.sl.keep hSw)) hHeld ?_
        go_frame
        refine takeH (i := 5) (some 50) rfl rfl (by kernel_rfl) (by kernel_rfl) (by kernel_rfl) (fun _ _ _ h => h) (by rfl) (fun w hSw => by (try dsimp only at hSw); go_simp; try rfl) hHeld ?_
        go_frame
        refine takeH (i := 6) (some 51) rfl rfl (by kernel_rfl) (by kernel_rfl) (by kernel_rfl) (fun _ _ _ h => h) (by rfl) (fun w hSw => by (try dsimp only at hSw); go_simp; try rfl) hHeld ?_
        go_frame
        refine takeH (i := 7) (some 52) rfl rfl (by kernel_rfl) (by kernel_rfl) (by kernel_rfl) (fun _ _ _ h => h) (by rfl) (fun w hSw => by (try dsimp only at hSw); go_simp; try rfl) hHeld ?_
        go_frame
        refine takeH (i := 8) (some 53) rfl rfl (by kernel_rfl) (by kernel_rfl) (by kernel_rfl) (fun _ _ _ h => h) (by rfl) (fun w hSw => by (try dsimp only at hSw); exact (slb_h_run (j := 8 + c) rfl rfl rfl (by first | rfl | omega | (rw [IntWalk.i64_left]; unfold wrap64; omega)) (by omega)).trans (by rw [e4])) hHeld ?_
        go_frame
        refine takeH (i := 9) (some 54) rfl rfl (by kernel_rfl) (by kernel_rfl) (by kernel_rfl) (fun _ _ _ h => h) (by rfl) (fun w hSw => by (try dsimp only at hSw); exact cv_run (x := .tmp 53) rfl rfl (s4.keep hSw)) hHeld ?_
        go_frame
        rw [HFE.out]
        refine takeH (i := 10) (some 55) rfl rfl (by kernel_rfl) (by kernel_rfl) (by kernel_rfl) (fun _ _ _ h => h) (by rfl) (fun w hSw => by (try dsimp only at hSw); go_simp; try rfl) hHeld ?_
        go_frame
        refine takeH (i := 11) (some 56) rfl rfl (by kernel_rfl) (by kernel_rfl) (by kernel_rfl) (fun _ _ _ h => h) (by rfl) (fun w hSw => by (try dsimp only at hSw); go_simp; try rfl) hHeld ?_
        go_frame
        refine wpAnyH_done (by kernel_rfl) ?_ _
        go_wp2_with (first
          | (refine bs_by rfl rfl [] (vs := #[]) (by simp) (bsb0 _) rfl (by decide) ?_; intro W3 hN3 hb3 z3)
          | (refine slb_lh rfl rfl 8 (8 + c) rfl rfl rfl rfl (by omega) (by omega) (by omega) (hvV.keep (ab_trans hHeld hb3)) ?_; intro q5 s5; have s6 : Sl W3 (.slice q5 (8 + c - 8) (cap - 8)) (insB l) := (by have h := s5; rw [Nat.add_sub_cancel_left] at h ⊢; rw [HIB.out]; exact h))
          | (at_builtin; (first | refine app_by V2.drew rfl rfl rfl hN3 rfl s6 HLI.out (by omega) hb3 ?_ | refine app_by V2.drew rfl rfl rfl hN3 rfl (by have h := s6; rw [Nat.add_sub_cancel_left] at h; exact h) HLI.out (by omega) hb3 ?_); intro v6 W6 hown6 hnil6 hb6 hgr6 hat6))
        go_ret2
        refine ⟨⟨fun _ => ⟨v6, ?_, ?_⟩, fun h => by rw [hok] at h; cases h⟩, ab_trans hbV2 (ab_trans hHeld hb6)⟩
        · rw [HLI.out]; rfl
        · have := ow_of hown6
          rw [List.nil_append] at this
          exact this.less (Nat.le_trans hbV2.size hHeld.size)
      | false =>
        have hne : strB (frm (insB l)) ≠ strB (l.take (8 + c)) := fun h => by
          have := (HIO.out c2 c1).1 (strB_inj HB1.out HB2.out h)
          rw [hok] at this
          cases this
        have hneb := strB_ne hne
        refine wp_region_held_drew (S := fun w' => Below V2.heap.size V2 w') (by kernel_rfl) (ab_drew (Below.refl _ _)) (fun hHeld => ?_)
        refine takeH (i := 0) (some 45) rfl rfl (by kernel_rfl) (by kernel_rfl) (by kernel_rfl) (fun _ _ _ h => h) (by rfl) (fun w hSw => by (try dsimp only at hSw); go_simp; try rfl) hHeld ?_
        go_frame
        refine takeH (i := 1) (some 46) rfl rfl (by kernel_rfl) (by kernel_rfl) (by kernel_rfl) (fun _ _ _ h => h) (by rfl) (fun w hSw => by (try dsimp only at hSw); go_simp; try rfl) hHeld ?_
        go_frame
        refine takeH (i := 2) (some 47) rfl rfl (by kernel_rfl) (by kernel_rfl) (by kernel_rfl) (fun _ _ _ h => h) (by rfl) (fun w hSw => by (try dsimp only at hSw); go_simp; try rfl) hHeld ?_
        go_frame
        refine takeH (i := 3) (some 48) rfl rfl (by kernel_rfl) (by kernel_rfl) (by kernel_rfl) (fun _ _ _ h => h) (by rfl) (fun w hSw => by (try dsimp only at hSw); go_simp; try rfl) hHeld ?_
        go_frame
        refine takeH (i := 4) (some 49) rfl rfl (by kernel_rfl) (by kernel_rfl) (by kernel_rfl) (fun _ _ _ h => h) (by rfl) (fun w hSw => by (try dsimp only at hSw); exact cv_run (x := .tmp 48) rfl rfl (HO2.sl.keep hSw)) hHeld ?_
        go_frame
        refine takeH (i := 5) (some 50) rfl rfl (by kernel_rfl) (by kernel_rfl) (by kernel_rfl) (fun _ _ _ h => h) (by rfl) (fun w hSw => by (try dsimp only at hSw); go_simp; try rfl) hHeld ?_
        go_frame
        refine takeH (i := 6) (some 51) rfl rfl (by kernel_rfl) (by kernel_rfl) (by kernel_rfl) (fun _ _ _ h => h) (by rfl) (fun w hSw => by (try dsimp only at hSw); go_simp; try rfl) hHeld ?_
        go_frame
        refine takeH (i := 7) (some 52) rfl rfl (by kernel_rfl) (by kernel_rfl) (by kernel_rfl) (fun _ _ _ h => h) (by rfl) (fun w hSw => by (try dsimp only at hSw); go_simp; try rfl) hHeld ?_
        go_frame
        refine takeH (i := 8) (some 53) rfl rfl (by kernel_rfl) (by kernel_rfl) (by kernel_rfl) (fun _ _ _ h => h) (by rfl) (fun w hSw => by (try dsimp only at hSw); exact (slb_h_run (j := 8 + c) rfl rfl rfl (by first | rfl | omega | (rw [IntWalk.i64_left]; unfold wrap64; omega)) (by omega)).trans (by rw [e4])) hHeld ?_
        go_frame
        refine takeH (i := 9) (some 54) rfl rfl (by kernel_rfl) (by kernel_rfl) (by kernel_rfl) (fun _ _ _ h => h) (by rfl) (fun w hSw => by (try dsimp only at hSw); exact cv_run (x := .tmp 53) rfl rfl (s4.keep hSw)) hHeld ?_
        go_frame
        refine takeH (i := 10) (some 55) rfl rfl (by kernel_rfl) (by kernel_rfl) (by kernel_rfl) (fun _ _ _ h => h) (by rfl) (fun w hSw => by (try dsimp only at hSw); go_simp; try rfl) hHeld ?_
        go_frame
        refine takeH (i := 11) (some 56) rfl rfl (by kernel_rfl) (by kernel_rfl) (by kernel_rfl) (fun _ _ _ h => h) (by rfl) (fun w hSw => by (try dsimp only at hSw); go_simp; try rfl) hHeld ?_
        go_frame
        refine wpAnyH_done (by kernel_rfl) ?_ _
        go_wp2_with fail
        go_ret2
        exact ⟨⟨fun h => (by rw [hok] at h; cases h), fun _ => rfl⟩, ab_trans hbV2 hHeld⟩
    · have hno : insOK l = false := by
        cases h : insOK l with
        | false => rfl
        | true => exact absurd (HOK.out.1 h).2.1 (by omega)
      go_upto_region 7 with (first
        | (refine slb_lh rfl rfl 8 (8 + c) rfl rfl rfl rfl (by omega) (by omega) (by omega) hv1 ?_; intro q3 s3; rw [Nat.add_sub_cancel_left, ← HIB.out] at s3)
        | (go_at_call 30; refine (rwrap_no _ _ _ s3 (by rw [HLI.out]; omega)).mono ?_; rintro e V2 ⟨rfl, hb2⟩))
      refine wp_region_below (by kernel_rfl) (by kernel_rfl) ?_
      have HZ := cls_some V2
      repeat (go_big_quiet_step (fail))
      refine wpQuiet_nil ?_
      rintro _ ⟨y, rfl⟩
      obtain ⟨V9, hb9⟩ := y
      dsimp only
      go_wp2_with fail
      go_ret2
      exact ⟨⟨fun h => (by rw [hno] at h; cases h), fun _ => rfl⟩, ab_trans hb1 (ab_trans hb2 hb9)⟩
  · have c1i : (n : Int) - 8 < (c : Int) := by omega
    have hno : insOK l = false := by
      cases h : insOK l with
      | false => rfl
      | true => exact absurd (HOK.out.1 h).2.2.1 (by omega)
    go_wp2_with fail
    go_ret2
    exact ⟨⟨fun h => (by rw [hno] at h; cases h), fun _ => rfl⟩, hb1⟩
theorem runwrap_any (v : Value) (l : List Nat) (w : World) (hv : Sl w v l) (hb : Byt l) (hl : l.length ≤ 100000) :
    Calls Try.prog 39 #[v] w fun e w' => UP w' w.heap.size l e ∧ Below w.heap.size w w' := by
  by_cases h8 : 8 ≤ l.length
  · exact runwrap_long v l w hv hb hl h8
  · refine (runwrap_short v l w hv (by omega)).mono fun e w' ⟨h1, h2⟩ => ⟨⟨fun h => absurd ((insOK_iff l).1 h).1 h8, fun _ => h1⟩, h2⟩
end Go.Proofs.Ytjbhicjnnghjjaa
namespace Go.Proofs.Ytjbhicjnnghjjaa
open Go.RowKit Go.Shelf
set_option linter.unusedVariables false

def FitC (k : Int) (n : Nat) : Prop := ((k = 1 ∨ k = 4 ∨ k = 9) ∧ n = 4) ∨ (k = 2 ∧ 7 ≤ n ∧ n ≤ 39) ∨ (k = 3 ∧ 4 ≤ n ∧ n ≤ 36) ∨ (k = 5 ∧ n = 7) ∨ (k = 6 ∧ 1 ≤ n ∧ n ≤ 25 ∧ n % 2 = 1) ∨ (k = 7 ∧ 2 ≤ n ∧ n ≤ 26 ∧ n % 2 = 0) ∨ (k = 8 ∧ n = 6)
def FitM (k : Int) (m p : Nat) : Prop := (k = 7 ∨ m = 0) ∧ (k = 8 ∨ p = 0) ∧ m ≤ 16 ∧ p ≤ 16
theorem fitK_iff (k : Int) (n m p : Nat) : FitK k n m p ↔ FitC k n ∧ FitM k m p := by
  constructor
  · intro h
    rcases h with h | h | h | h | h | h | h
    · exact ⟨.inl ⟨h.1, h.2.1⟩, by unfold FitM; omega⟩
    · exact ⟨.inr (.inl ⟨h.1, h.2.1, h.2.2.1⟩), by unfold FitM; omega⟩
    · exact ⟨.inr (.inr (.inl ⟨h.1, h.2.1, h.2.2.1⟩)), by unfold FitM; omega⟩
    · exact ⟨.inr (.inr (.inr (.inl ⟨h.1, h.2.1⟩))), by unfold FitM; omega⟩
    · exact ⟨.inr (.inr (.inr (.inr (.inl ⟨h.1, h.2.1, h.2.2.1, h.2.2.2.1⟩)))), by unfold FitM; omega⟩
    · exact ⟨.inr (.inr (.inr (.inr (.inr (.inl ⟨h.1, h.2.1, h.2.2.1, h.2.2.2.1⟩))))), by unfold FitM; omega⟩
    · exact ⟨.inr (.inr (.inr (.inr (.inr (.inr ⟨h.1, h.2.1⟩))))), by unfold FitM; omega⟩
  · rintro ⟨h, g1, g2, g3, g4⟩
    rcases h with h | h | h | h | h | h | h
    · exact .inl ⟨h.1, h.2, by omega, by omega⟩
    · exact .inr (.inl ⟨h.1, h.2.1, h.2.2, by omega, by omega⟩)
    · exact .inr (.inr (.inl ⟨h.1, h.2.1, h.2.2, by omega, by omega⟩))
    · exact .inr (.inr (.inr (.inl ⟨h.1, h.2, by omega, by omega⟩)))
    · exact .inr (.inr (.inr (.inr (.inl ⟨h.1, h.2.1, h.2.2.1, h.2.2.2, by omega, by omega⟩))))
    · exact .inr (.inr (.inr (.inr (.inr (.inl ⟨h.1, h.2.1, h.2.2.1, h.2.2.2, by omega, by omega⟩)))))
    · exact .inr (.inr (.inr (.inr (.inr (.inr ⟨h.1, h.2, by omega, by omega⟩)))))

set_option maxHeartbeats 4000000 in
set_option maxRecDepth 100000 in
theorem good_any (N : Nt) (vn vo ve : Value) (w : World) (h1 : Is w vn N.ns) (h2 : SR 5 k64 w vo N.os) (h3 : SR 76 ek w ve N.es) :
    Calls Try.prog 16 #[ntV N vn vo ve] w fun r w' => BIff r (GoodN N) ∧ Below w.heap.size w w' := by
  obtain ⟨k, f, t, ns, os, es⟩ := N
  obtain ⟨qn, cn, gn, on, rfl, _, hcn, -, -, -⟩ := h1
  obtain ⟨qo, co, go, oo, rfl, hlo, hco, hpo, hgo, hro⟩ := h2
  obtain ⟨qe, ce, ge, oe, rfl, _, hce, -, -, -⟩ := h3
  dsimp only at *
  have HG : Hid (GoodN ⟨k, f, t, ns, os, es⟩ ↔ (0 ≤ f ∧ f ≤ 999) ∧ (0 ≤ t ∧ t ≤ 999) ∧ (FitC k ns.length ∧ FitM k os.length es.length) ∧ ∀ o ∈ os, o 1 = 1 ∨ o 1 = 2) := ⟨fun h => ⟨h.f, h.t, (fitK_iff _ _ _ _).1 h.fit, h.os⟩, fun h => ⟨h.1, h.2.1, (fitK_iff _ _ _ _).2 h.2.2.1, h.2.2.2⟩⟩
  generalize ns.length = n at *
  generalize hol : os.length = m at *
  generalize es.length = p at *
  go_enter Try.func16, Try.ntmps16
  go_upto_region 1 with fail
  have hB := Blk.new w #[.int .i64 k, .int .i64 f, .int .i64 t, .slice qn n cn, .slice qo m co, .slice qe p ce] 26
  have hA := ab_alloc (Below.refl w.heap.size w) (.cells #[.int .i64 k, .int .i64 f, .int .i64 t, .slice qn n cn, .slice qo m co, .slice qe p ce] 26)
  generalize w.alloc (.cells #[.int .i64 k, .int .i64 f, .int .i64 t, .slice qn n cn, .slice qo m co, .slice qe p ce] 26) = V at *
  obtain ⟨d0, d1, d2, d3, d4, d5, -, -, -, -, -, -⟩ := six hB
  clear hB
  by_cases a1 : f < 0
  · have HE : Hid (BIff (.returned (.bool false)) (GoodN ⟨k, f, t, ns, os, es⟩)) := biff_no fun h => by have := HG.out.1 h; omega
    go_wp2_with fail
    go_ret
    exact ⟨HE.out, hA⟩
  by_cases a2 : 999 < f
  · have HE : Hid (BIff (.returned (.bool false)) (GoodN ⟨k, f, t, ns, os, es⟩)) := biff_no fun h => by have := HG.out.1 h; omega
    go_wp2_with fail
    go_ret
    exact ⟨HE.out, hA⟩
  by_cases a3 : t < 0
  · have HE : Hid (BIff (.returned (.bool false)) (GoodN ⟨k, f, t, ns, os, es⟩)) := biff_no fun h => by have := HG.out.1 h; omega
    go_wp2_with fail
    go_ret
    exact ⟨HE.out, hA⟩
  by_cases a4 : 999 < t
  · have HE : Hid (BIff (.returned (.bool false)) (GoodN ⟨k, f, t, ns, os, es⟩)) := biff_no fun h => by have := HG.out.1 h; omega
    go_wp2_with fail
    go_ret
    exact ⟨HE.out, hA⟩
  have HG2 : Hid (GoodN ⟨k, f, t, ns, os, es⟩ ↔ (FitC k n ∧ FitM k m p) ∧ ∀ o ∈ os, o 1 = 1 ∨ o 1 = 2) := by
    refine HG.out.trans ⟨fun h => h.2.2, fun h => ⟨by omega, by omega, h⟩⟩
  clear HG
  go_upto_block 0 with fail
  clear a1 a2 a3 a4
  go_cut [4] from 29 to 84 (fun s wc => (∃ gd : Bool, s = .bool gd ∧ (gd = true ↔ FitC k n)) ∧ wc = V)
  case first =>
    clear d0 d1 d2 d3 d4 d5 HG2 hpo hgo hro
    by_cases q1 : k = 1
    · subst q1
      go_wp2_with fail
      go_meet
      case rel => exact ⟨⟨_, rfl, by simp <;> unfold FitC <;> omega⟩, rfl⟩
    by_cases q2 : k = 2
    · subst q2
      by_cases h2 : (7 : Int) ≤ (n : Int)
      · have e1 : 7 ≤ n := by omega
        by_cases h1 : (n : Int) ≤ 39
        · have e2 : n ≤ 39 := by omega
          go_wp2_with fail
          go_meet
          case rel => exact ⟨⟨_, rfl, by simp <;> unfold FitC <;> omega⟩, rfl⟩
        · have e2 : ¬ n ≤ 39 := by omega
          go_wp2_with fail
          go_meet
          case rel => exact ⟨⟨_, rfl, by simp <;> unfold FitC <;> omega⟩, rfl⟩
      · have e1 : ¬ 7 ≤ n := by omega
        go_wp2_with fail
        go_meet
        case rel => exact ⟨⟨_, rfl, by simp <;> unfold FitC <;> omega⟩, rfl⟩
    by_cases q3 : k = 3
    · subst q3
      by_cases h2 : (4 : Int) ≤ (n : Int)
      · have e1 : 4 ≤ n := by omega
        by_cases h1 : (n : Int) ≤ 36
        · have e2 : n ≤ 36 := by omega
          go_wp2_with fail
          go_meet
          case rel => exact ⟨⟨_, rfl, by simp <;> unfold FitC <;> omega⟩, rfl⟩
        · have e2 : ¬ n ≤ 36 := by omega
          go_wp2_with fail
          go_meet
          case rel => exact ⟨⟨_, rfl, by simp <;> unfold FitC <;> omega⟩, rfl⟩
      · have e1 : ¬ 4 ≤ n := by omega
        go_wp2_with fail
        go_meet
        case rel => exact ⟨⟨_, rfl, by simp <;> unfold FitC <;> omega⟩, rfl⟩
    by_cases q4 : k = 4
    · subst q4
      go_wp2_with fail
      go_meet
      case rel => exact ⟨⟨_, rfl, by simp <;> unfold FitC <;> omega⟩, rfl⟩
    by_cases q5 : k = 5
    · subst q5
      go_wp2_with fail
      go_meet
      case rel => exact ⟨⟨_, rfl, by simp <;> unfold FitC <;> omega⟩, rfl⟩
    by_cases q6 : k = 6
    · subst q6
      by_cases h2 : (1 : Int) ≤ (n : Int)
      · have e1 : 1 ≤ n := by omega
        by_cases h1 : (n : Int) ≤ 25
        · have e2 : n ≤ 25 := by omega
          by_cases h0 : n % 2 = 1
          · have e3 : ((n : Int).tmod 2 == 1) = true := by rw [Int.tmod_eq_emod_of_nonneg (by omega)]; simp; omega
            go_wp2_with fail
            go_meet
            case rel => exact ⟨⟨_, rfl, by simp <;> unfold FitC <;> omega⟩, rfl⟩
          · have e3 : ((n : Int).tmod 2 == 1) = false := by rw [Int.tmod_eq_emod_of_nonneg (by omega)]; simp; omega
            go_wp2_with fail
            go_meet
            case rel => exact ⟨⟨_, rfl, by simp <;> unfold FitC <;> omega⟩, rfl⟩
        · have e2 : ¬ n ≤ 25 := by omega
          go_wp2_with fail
          go_meet
          case rel => exact ⟨⟨_, rfl, by simp <;> unfold FitC <;> omega⟩, rfl⟩
      · have e1 : ¬ 1 ≤ n := by omega
        go_wp2_with fail
        go_meet
        case rel => exact ⟨⟨_, rfl, by simp <;> unfold FitC <;> omega⟩, rfl⟩
    by_cases q7 : k = 7
    · subst q7
      by_cases h2 : (2 : Int) ≤ (n : Int)
      · have e1 : 2 ≤ n := by omega
        by_cases h1 : (n : Int) ≤ 26
        · have e2 : n ≤ 26 := by omega
          by_cases h0 : n % 2 = 0
          · have e3 : ((n : Int).tmod 2 == 0) = true := by rw [Int.tmod_eq_emod_of_nonneg (by omega)]; simp; omega
            go_wp2_with fail
            go_meet
            case rel => exact ⟨⟨_, rfl, by simp <;> unfold FitC <;> omega⟩, rfl⟩
          · have e3 : ((n : Int).tmod 2 == 0) = false := by rw [Int.tmod_eq_emod_of_nonneg (by omega)]; simp; omega
            go_wp2_with fail
            go_meet
            case rel => exact ⟨⟨_, rfl, by simp <;> unfold FitC <;> omega⟩, rfl⟩
        · have e2 : ¬ n ≤ 26 := by omega
          go_wp2_with fail
          go_meet
          case rel => exact ⟨⟨_, rfl, by simp <;> unfold FitC <;> omega⟩, rfl⟩
      · have e1 : ¬ 2 ≤ n := by omega
        go_wp2_with fail
        go_meet
        case rel => exact ⟨⟨_, rfl, by simp <;> unfold FitC <;> omega⟩, rfl⟩
    by_cases q8 : k = 8
    · subst q8
      go_wp2_with fail
      go_meet
      case rel => exact ⟨⟨_, rfl, by simp <;> unfold FitC <;> omega⟩, rfl⟩
    by_cases q9 : k = 9
    · subst q9
      go_wp2_with fail
      go_meet
      case rel => exact ⟨⟨_, rfl, by simp <;> unfold FitC <;> omega⟩, rfl⟩
    have b1 : (k == 1) = false := by simpa using q1
    have b2 : (k == 2) = false := by simpa using q2
    have b3 : (k == 3) = false := by simpa using q3
    have b4 : (k == 4) = false := by simpa using q4
    have b5 : (k == 5) = false := by simpa using q5
    have b6 : (k == 6) = false := by simpa using q6
    have b7 : (k == 7) = false := by simpa using q7
    have b8 : (k == 8) = false := by simpa using q8
    have b9 : (k == 9) = false := by simpa using q9
    go_wp2_with fail
    go_meet
    case rel => exact ⟨⟨_, rfl, by simp <;> unfold FitC <;> omega⟩, rfl⟩
  case rest =>
    obtain ⟨⟨gd, rfl, hgd⟩, rfl⟩ := hcut
    cases gd with
    | false =>
      have HE : Hid (BIff (.returned (.bool false)) (GoodN ⟨k, f, t, ns, os, es⟩)) := biff_no fun h => absurd (hgd.2 (HG2.out.1 h).1.1) (by simp)
      clear hgd
      go_wp2_with fail
      go_ret
      exact ⟨HE.out, hA⟩
    | true =>
      have HC : Hid (FitC k n) := hgd.1 rfl
      clear hgd
      go_upto_region 24 with fail
      go_cut [118] from 87 to 118 (fun s wx => (∃ bd : Bool, s = .bool bd ∧ (bd = false ↔ FitM k m p)) ∧ wx = wc)
      case first =>
        clear hpo hgo hro
        by_cases k7 : k = 7
        · have b7 : (k != 7) = false := by simp [k7]
          have b8 : (k != 8) = true := by simp [k7]
          have HK7 : Hid (k = 7) := k7
          clear k7
          by_cases p0 : 0 < p
          · have p0i : (0 : Int) < (p : Int) := by omega
            go_wp2_with fail
            go_meet
            case rel => exact ⟨⟨_, rfl, by (try have hk7 : k = 7 := HK7.out); (try have hk8 : k = 8 := HK8.out); simp <;> unfold FitM <;> omega⟩, rfl⟩
          · have p0i : ¬ (0 : Int) < (p : Int) := by omega
            by_cases m6 : 16 < m
            · have m6i : (16 : Int) < (m : Int) := by omega
              go_wp2_with fail
              go_meet
              case rel => exact ⟨⟨_, rfl, by (try have hk7 : k = 7 := HK7.out); (try have hk8 : k = 8 := HK8.out); simp <;> unfold FitM <;> omega⟩, rfl⟩
            · have m6i : ¬ (16 : Int) < (m : Int) := by omega
              have p6i : ¬ (16 : Int) < (p : Int) := by omega
              have p6 : ¬ 16 < p := by omega
              go_wp2_with fail
              go_meet
              case rel => exact ⟨⟨_, rfl, by (try have hk7 : k = 7 := HK7.out); (try have hk8 : k = 8 := HK8.out); simp <;> unfold FitM <;> omega⟩, rfl⟩
        · have b7 : (k != 7) = true := by simp [k7]
          by_cases m0 : 0 < m
          · have m0i : (0 : Int) < (m : Int) := by omega
            go_wp2_with fail
            go_meet
            case rel => exact ⟨⟨_, rfl, by (try have hk7 : k = 7 := HK7.out); (try have hk8 : k = 8 := HK8.out); simp <;> unfold FitM <;> omega⟩, rfl⟩
          · have m0i : ¬ (0 : Int) < (m : Int) := by omega
            have m6i : ¬ (16 : Int) < (m : Int) := by omega
            have m6 : ¬ 16 < m := by omega
            by_cases k8 : k = 8
            · have b8 : (k != 8) = false := by simp [k8]
              have HK8 : Hid (k = 8) := k8
              clear k8
              by_cases p6 : 16 < p
              · have p6i : (16 : Int) < (p : Int) := by omega
                go_wp2_with fail
                go_meet
                case rel => exact ⟨⟨_, rfl, by (try have hk7 : k = 7 := HK7.out); (try have hk8 : k = 8 := HK8.out); simp <;> unfold FitM <;> omega⟩, rfl⟩
              · have p6i : ¬ (16 : Int) < (p : Int) := by omega
                go_wp2_with fail
                go_meet
                case rel => exact ⟨⟨_, rfl, by (try have hk7 : k = 7 := HK7.out); (try have hk8 : k = 8 := HK8.out); simp <;> unfold FitM <;> omega⟩, rfl⟩
            · have b8 : (k != 8) = true := by simp [k8]
              by_cases p0 : 0 < p
              · have p0i : (0 : Int) < (p : Int) := by omega
                go_wp2_with fail
                go_meet
                case rel => exact ⟨⟨_, rfl, by (try have hk7 : k = 7 := HK7.out); (try have hk8 : k = 8 := HK8.out); simp <;> unfold FitM <;> omega⟩, rfl⟩
              · have p0i : ¬ (0 : Int) < (p : Int) := by omega
                have p6i : ¬ (16 : Int) < (p : Int) := by omega
                have p6 : ¬ 16 < p := by omega
                go_wp2_with fail
                go_meet
                case rel => exact ⟨⟨_, rfl, by (try have hk7 : k = 7 := HK7.out); (try have hk8 : k = 8 := HK8.out); simp <;> unfold FitM <;> omega⟩, rfl⟩
      case rest =>
        obtain ⟨⟨bd, rfl, hbd⟩, rfl⟩ := hcut
        cases bd with
        | true =>
          have HE : Hid (BIff (.returned (.bool false)) (GoodN ⟨k, f, t, ns, os, es⟩)) := biff_no fun h => absurd (hbd.2 (HG2.out.1 h).1.2) (by simp)
          clear hbd
          go_wp2_with fail
          go_ret
          exact ⟨HE.out, hA⟩
        | false =>
          have HM : Hid (FitM k m p) := hbd.1 rfl
          clear hbd
          have HY : Hid ((∀ o ∈ os, o 1 = 1 ∨ o 1 = 2) → BIff (.returned (.bool true)) (GoodN ⟨k, f, t, ns, os, es⟩)) := fun h => biff_yes (HG2.out.2 ⟨⟨HC.out, HM.out⟩, h⟩)
          have HNo : Hid ((∃ o ∈ os, ¬ (o 1 = 1 ∨ o 1 = 2)) → BIff (.returned (.bool false)) (GoodN ⟨k, f, t, ns, os, es⟩)) := fun ⟨o, ho, hb⟩ => biff_no fun h => absurd ((HG2.out.1 h).2 o ho) hb
          clear HG2 HC HM d0 d1 d2 d3 d5
          go_wp2_with fail
          go_loopw [5] (fun i wr => ∃ j : Nat, j ≤ m ∧ i = .int .i64 (j : Int) ∧ (∀ o ∈ os.take j, o 1 = 1 ∨ o 1 = 2) ∧ wr = wc) (fun i _ => m - (intOf i).toNat)
          case atStart => exact ⟨0, by omega, rfl, fun o ho => by simp at ho, rfl⟩
          case round =>
            obtain ⟨j, hj, rfl, hgood, rfl⟩ := hrel
            have HGd : Hid (∀ o ∈ os.take j, o 1 = 1 ∨ o 1 = 2) := hgood
            clear hgood
            by_cases cj : j = m
            · subst cj
              have HE : Hid (BIff (.returned (.bool true)) (GoodN ⟨k, f, t, ns, os, es⟩)) := HY.out (by have := HGd.out; rwa [List.take_of_length_le (by omega)] at this)
              go_wp2_with fail
              go_ret
              exact ⟨HE.out, hA⟩
            · obtain ⟨x, hx⟩ : ∃ x, os[j]? = some x := ⟨os[j], List.getElem?_eq_getElem (by omega)⟩
              obtain rfl := hpo (by omega)
              have hr : wr.rangeAt go (oo + j * 5) (OA x).toList := fun i v hv => (hA.cell (p := ⟨go, _, none⟩) (hgo (by omega))).trans (hro j x hx i v hv)
              obtain ⟨x0, x1, x2, x3, x4⟩ := cells_op hr
              have hji : (j : Int) < (m : Int) := by omega
              have hjm : j < m := by omega
              have HX : Hid (x ∈ os) := List.mem_of_getElem? hx
              have HT : Hid (os.take (j + 1) = os.take j ++ [x]) := by show _ = _; rw [List.take_add_one, hx, Option.toList_some]
              clear hr hro hpo hgo hx hol
              by_cases c1 : x 1 = 1
              · have e1 : (x 1 != 1) = false := by simp [c1]
                go_wp2_with fail
                refine ⟨⟨j + 1, by omega, rfl, ?_, by first | rfl | trivial⟩, by simp only [intOf]; omega⟩
                intro o ho
                rw [HT.out] at ho
                rcases List.mem_append.1 ho with ho | ho
                · exact HGd.out o ho
                · simp at ho; subst ho; exact .inl c1
              · have e1 : (x 1 != 1) = true := by simp [c1]
                by_cases c2 : x 1 = 2
                · have e2 : (x 1 != 2) = false := by simp [c2]
                  go_wp2_with fail
                  refine ⟨⟨j + 1, by omega, rfl, ?_, by first | rfl | trivial⟩, by simp only [intOf]; omega⟩
                  intro o ho
                  rw [HT.out] at ho
                  rcases List.mem_append.1 ho with ho | ho
                  · exact HGd.out o ho
                  · simp at ho; subst ho; exact .inr c2
                · have e2 : (x 1 != 2) = true := by simp [c2]
                  have HE : Hid (BIff (.returned (.bool false)) (GoodN ⟨k, f, t, ns, os, es⟩)) := HNo.out ⟨x, HX.out, by omega⟩
                  go_wp2_with fail
                  go_ret
                  exact ⟨HE.out, hA⟩
end Go.Proofs.Ytjbhicjnnghjjaa
namespace Go.Proofs.Ytjbhicjnnghjjaa
open Go.RowKit Go.Shelf
set_option linter.unusedVariables false

set_option maxHeartbeats 4000000 in
set_option maxRecDepth 100000 in
theorem rlist_any (N : Nt) (vn vo ve : Value) (w : World) (h1 : Is w vn N.ns) (h2 : SR 5 k64 w vo N.os) (h3 : SR 76 ek w ve N.es) (hW : WN N) (l1 : N.ns.length ≤ 1000) (l2 : N.os.length ≤ 1000) (l3 : N.es.length ≤ 1000) :
    Calls Try.prog 32 #[ntV N vn vo ve] w fun e w' => ∃ v', e = .returned v' ∧ Io w' w.heap.size v' (numsN N) ∧ Below w.heap.size w w' := by
  obtain ⟨k, f, t, ns, os, es⟩ := N
  have hwE := hW.es
  clear hW
  dsimp only at *
  have HN : Hid (numsN ⟨k, f, t, ns, os, es⟩ = k :: f :: t :: (ns.length : Int) :: (ns ++ ((os.length : Int) :: (os.flatMap opN ++ ((es.length : Int) :: es.flatMap enN))))) := rfl
  have h1' : Hid (Is w vn ns) := h1
  obtain ⟨qn, cn, gn, on, rfl, _, hcn, -, -, -⟩ := h1
  obtain ⟨qo, co, go, oo, rfl, hlo, hco, hpo, hgo, hro⟩ := h2
  obtain ⟨qe, ce, ge, oe, rfl, hle, hce, hpe, hge, hre⟩ := h3
  generalize hnl : ns.length = n at *
  generalize hol : os.length = m at *
  generalize hel : es.length = p at *
  go_enter Try.func32, Try.ntmps32
  go_upto_region 1 with fail
  have hB := Blk.new w #[.int .i64 k, .int .i64 f, .int .i64 t, .slice qn n cn, .slice qo m co, .slice qe p ce] 26
  have hA := ab_alloc (Below.refl w.heap.size w) (.cells #[.int .i64 k, .int .i64 f, .int .i64 t, .slice qn n cn, .slice qo m co, .slice qe p ce] 26)
  generalize w.alloc (.cells #[.int .i64 k, .int .i64 f, .int .i64 t, .slice qn n cn, .slice qo m co, .slice qe p ce] 26) = A at *
  have d0 : A.cell? ⟨w.heap.size, 0, none⟩ = some (.int .i64 k) := hB.at rfl
  have d1 : A.cell? ⟨w.heap.size, 1, none⟩ = some (.int .i64 f) := hB.at rfl
  have d2 : A.cell? ⟨w.heap.size, 2, none⟩ = some (.int .i64 t) := hB.at rfl
  have d3 : A.cell? ⟨w.heap.size, 3, none⟩ = some (.slice qn n cn) := hB.at rfl
  go_upto_region 2 with (refine bs_own rfl rfl [k, f, t, (n : Int)] (by simp only [List.map_toArray, List.map_cons, List.map_nil]; rfl) (isl4n _ _ _ _ _) rfl (by decide) ?_; intro V1 hN1 b1 z1)
  have D3 : ∀ W, Below A.heap.size A W → W.cell? ⟨w.heap.size, 3, none⟩ = some (.slice qn n cn) := fun W hb => (hB.keep hb).at rfl
  have D4 : Hid (∀ W, Below A.heap.size A W → W.cell? ⟨w.heap.size, 4, none⟩ = some (.slice qo m co)) := fun W hb => (hB.keep hb).at rfl
  have D5 : Hid (∀ W, Below A.heap.size A W → W.cell? ⟨w.heap.size, 5, none⟩ = some (.slice qe p ce)) := fun W hb => (hB.keep hb).at rfl
  have d3' := D3 V1 b1
  go_upto_region 3 with (at_builtin; refine app_i A rfl rfl rfl hN1 rfl ((h1'.out.keep hA).keep b1) hnl (by omega) b1 ?_; intro v2 V2 hown2 hnil2 b2 hgr2 hat2)
  have O2 : Io V2 A.heap.size v2 ([k, f, t, (n : Int)] ++ ns) := io_of hown2
  have HX0 : Hid (([k, f, t, (n : Int)] ++ ns).length = 4 + n) := by show _ = _; rw [List.length_append, hnl]; rfl
  have HN2 : Hid (numsN ⟨k, f, t, ns, os, es⟩ = ([k, f, t, (n : Int)] ++ ns) ++ [(m : Int)] ++ os.flatMap opN ++ [(p : Int)] ++ es.flatMap enN) := by show _ = _; rw [HN.out]; simp
  clear hnil2 hgr2 hat2 hown2 hN1 z1 d0 d1 d2 d3 d3' HN h1' D3
  generalize [k, f, t, (n : Int)] ++ ns = X0 at *
  have d4 := D4.out V2 b2
  go_upto_region 4 with (first
    | (refine bs_own rfl rfl [(m : Int)] (by simp only [List.map_toArray, List.map_cons, List.map_nil]; rfl) (isl1 _ _) rfl (by decide) ?_; intro V3 hN3 b3 z3)
    | (at_builtin; refine app_i A rfl rfl rfl (O2.keep b3) rfl (own_is hN3) rfl (by have := HX0.out; show _ + 1 ≤ _; omega) (ab_trans b2 b3) ?_; intro v4 V4 hown4 hnil4 b4 hgr4 hat4))
  have O4 : Io V4 A.heap.size v4 (X0 ++ [(m : Int)]) := io_of hown4
  have HX1 : Hid ((X0 ++ [(m : Int)]).length = 5 + n) := by show _ = _; rw [List.length_append, HX0.out]; simp; omega
  clear hnil4 hgr4 hat4 hown4 hN3 z3 b3 O2 b2 HX0 d4
  generalize X0 ++ [(m : Int)] = X1 at *
  go_wp2_with fail
  go_loopw [3, 4] (fun x i wr => ∃ j : Nat, j ≤ m ∧ i = .int .i64 (j : Int) ∧ Io wr A.heap.size x (X1 ++ (os.take j).flatMap opN) ∧ Below A.heap.size A wr) (fun _ i _ => m - (intOf i).toNat)
  case atStart => exact ⟨0, by omega, rfl, by simpa using O4, b4⟩
  case round =>
    clear O4 b4 b1
    obtain ⟨j, hj, rfl, O, hb⟩ := hrel
    have d4 := D4.out wr hb
    by_cases cj : j = m
    · subst cj
      have e1 : os.take j = os := List.take_of_length_le (by omega)
      rw [e1] at O
      have HX2 : Hid ((X1 ++ os.flatMap opN).length = 5 + n + 5 * j) := by show _ = _; rw [List.length_append, HX1.out, ops_bytes, hol]
      clear e1 hro hpo hgo D4
      generalize X1 ++ os.flatMap opN = X2 at *
      have d5 := D5.out wr hb
      go_upto_region 10 with (first
        | (refine bs_own rfl rfl [(p : Int)] (by simp only [List.map_toArray, List.map_cons, List.map_nil]; rfl) (isl1 _ _) rfl (by decide) ?_; intro V5 hN5 b5 z5)
        | (at_builtin; refine app_i A rfl rfl rfl (O.keep b5) rfl (own_is hN5) rfl (by have := HX2.out; show _ + 1 ≤ _; omega) (ab_trans hb b5) ?_; intro v6 V6 hown6 hnil6 b6 hgr6 hat6))
      have O6 : Io V6 A.heap.size v6 (X2 ++ [(p : Int)]) := io_of hown6
      have HX3 : Hid ((X2 ++ [(p : Int)]).length ≤ 7000) := by show _ ≤ _; rw [List.length_append, HX2.out]; simp; omega
      clear hnil6 hgr6 hat6 hown6 hN5 z5 b5 O HX2 d5 d4
      generalize X2 ++ [(p : Int)] = X3 at *
      go_wp2_with fail
      go_loopw [3, 6] (fun x i wr => ∃ j : Nat, j ≤ p ∧ i = .int .i64 (j : Int) ∧ Io wr A.heap.size x (X3 ++ (es.take j).flatMap enN) ∧ Below A.heap.size A wr) (fun _ i _ => p - (intOf i).toNat)
      case atStart => exact ⟨0, by omega, rfl, by simpa using O6, b6⟩
      case round =>
        clear O6 b6 hb
        obtain ⟨j2, hj2, rfl, O, hb⟩ := hrel
        have d5 := D5.out wr hb
        by_cases cj2 : j2 = p
        · subst cj2
          have e2 : es.take j2 = es := List.take_of_length_le (by omega)
          rw [e2, ← HN2.out] at O
          go_wp2_with fail
          go_ret
          exact ⟨_, rfl, O.less hA.size, ab_trans hA hb⟩
        · obtain ⟨x, hx⟩ : ∃ x, es[j2]? = some x := ⟨es[j2], List.getElem?_eq_getElem (by omega)⟩
          obtain rfl := hpe (by omega)
          have HR : Hid (∀ W', Below A.heap.size A W' → W'.rangeAt ge (oe + j2 * 76) (EA x).toList) := fun W' hb' i v hv => ((ab_trans hA hb').cell (p := ⟨ge, _, none⟩) (hge (by omega))).trans (hre j2 x hx i v hv)
          have hxW := hwE x (List.mem_of_getElem? hx)
          have hji : (j2 : Int) < (p : Int) := by omega
          have hjm : j2 < p := by omega
          have HT : Hid ((es.take (j2 + 1)).flatMap enN = (es.take j2).flatMap enN ++ [x 0, x 1] ++ numsF (cE x)) := by
            show _ = _
            rw [List.take_add_one, hx, Option.toList_some, List.flatMap_append]
            simp [enN]
          have HL : Hid ((X3 ++ (es.take j2).flatMap enN).length ≤ 150000) := by
            have h1 := ents_count (es.take j2)
            rw [List.length_take] at h1
            have h2 := HX3.out
            show _ ≤ _
            rw [List.length_append]
            omega
          have hfl := (numsF_len (cE x)).2
          clear hre hpe hge hx hwE hel
          have X0' : Hid (∀ W', Below A.heap.size A W' → W'.cell? ⟨ge, oe + j2 * 76, none⟩ = some (.int .i64 (x 0))) := fun W' hb' => (EA_two (HR.out W' hb')).1
          have X1' : Hid (∀ W', Below A.heap.size A W' → W'.cell? ⟨ge, oe + j2 * 76 + 1, none⟩ = some (.int .i64 (x 1))) := fun W' hb' => (EA_two (HR.out W' hb')).2
          go_upto_region 13 with fail
          clear d5
          go_cut [3] from 65 to 81 (fun s wc => Io wc A.heap.size s (X3 ++ (es.take j2).flatMap enN ++ [x 0, x 1]) ∧ Below A.heap.size A wc)
          case first =>
            refine wp_region_held_drew (S := fun w' => Below A.heap.size A w') (by kernel_rfl) (ab_drew hb) (fun hHeld => ?_)
            refine takeH (i := 0) (some 65) rfl rfl (by kernel_rfl) (by kernel_rfl) (by kernel_rfl) (fun _ _ _ h => h) (by rfl) (fun w hSw => by (try dsimp only at hSw); go_simp; try rfl) hHeld ?_
            go_frame
            refine takeH (i := 1) (some 66) rfl rfl (by kernel_rfl) (by kernel_rfl) (by kernel_rfl) (fun _ _ _ h => h) (by rfl) (fun w hSw => by (try dsimp only at hSw); go_simp; try rfl) hHeld ?_
            go_frame
            refine takeH (i := 2) (some 67) rfl rfl (by kernel_rfl) (by kernel_rfl) (by kernel_rfl) (fun _ _ _ h => h) (by rfl) (fun w hSw => by (try dsimp only at hSw); (have hr := D5.out _ hSw; go_simp; try rfl)) hHeld ?_
            go_frame
            refine takeH (i := 3) (some 68) rfl rfl (by kernel_rfl) (by kernel_rfl) (by kernel_rfl) (fun _ _ _ h => h) (by rfl) (fun w hSw => by (try dsimp only at hSw); go_simp; try rfl) hHeld ?_
            go_frame
            refine takeH (i := 4) (some 69) rfl rfl (by kernel_rfl) (by kernel_rfl) (by kernel_rfl) (fun _ _ _ h => h) (by rfl) (fun w hSw => by (try dsimp only at hSw); go_simp; try rfl) hHeld ?_
            go_frame
            refine takeH (i := 5) (some 70) rfl rfl (by kernel_rfl) (by kernel_rfl) (by kernel_rfl) (fun _ _ _ h => h) (by rfl) (fun w hSw => by (try dsimp only at hSw); go_simp; try rfl) hHeld ?_
            go_frame
            refine takeH (i := 6) (some 71) rfl rfl (by kernel_rfl) (by kernel_rfl) (by kernel_rfl) (fun _ _ _ h => h) (by rfl) (fun w hSw => by (try dsimp only at hSw); go_simp; try rfl) hHeld ?_
            go_frame
            refine takeH (i := 7) (some 72) rfl rfl (by kernel_rfl) (by kernel_rfl) (by kernel_rfl) (fun _ _ _ h => h) (by rfl) (fun w hSw => by (try dsimp only at hSw); (have hr := X0'.out _ hSw; go_simp; try rfl)) hHeld ?_
            go_frame
            refine takeH (i := 8) (some 73) rfl rfl (by kernel_rfl) (by kernel_rfl) (by kernel_rfl) (fun _ _ _ h => h) (by rfl) (fun w hSw => by (try dsimp only at hSw); go_simp; try rfl) hHeld ?_
            go_frame
            refine takeH (i := 9) (some 74) rfl rfl (by kernel_rfl) (by kernel_rfl) (by kernel_rfl) (fun _ _ _ h => h) (by rfl) (fun w hSw => by (try dsimp only at hSw); (have hr := D5.out _ hSw; go_simp; try rfl)) hHeld ?_
            go_frame
            refine takeH (i := 10) (some 75) rfl rfl (by kernel_rfl) (by kernel_rfl) (by kernel_rfl) (fun _ _ _ h => h) (by rfl) (fun w hSw => by (try dsimp only at hSw); go_simp; try rfl) hHeld ?_
            go_frame
            refine takeH (i := 11) (some 76) rfl rfl (by kernel_rfl) (by kernel_rfl) (by kernel_rfl) (fun _ _ _ h => h) (by rfl) (fun w hSw => by (try dsimp only at hSw); go_simp; try rfl) hHeld ?_
            go_frame
            refine takeH (i := 12) (some 77) rfl rfl (by kernel_rfl) (by kernel_rfl) (by kernel_rfl) (fun _ _ _ h => h) (by rfl) (fun w hSw => by (try dsimp only at hSw); go_simp; try rfl) hHeld ?_
            go_frame
            refine takeH (i := 13) (some 78) rfl rfl (by kernel_rfl) (by kernel_rfl) (by kernel_rfl) (fun _ _ _ h => h) (by rfl) (fun w hSw => by (try dsimp only at hSw); go_simp; try rfl) hHeld ?_
            go_frame
            refine takeH (i := 14) (some 79) rfl rfl (by kernel_rfl) (by kernel_rfl) (by kernel_rfl) (fun _ _ _ h => h) (by rfl) (fun w hSw => by (try dsimp only at hSw); (have hr := X1'.out _ hSw; go_simp; try rfl)) hHeld ?_
            go_frame
            refine wpAnyH_ready (rs := [15]) (by kernel_rfl) (by simp) (AllReadyH.cons rfl (fun K hK => ?_) AllReadyH.nil)
            rw [if_pos (by rfl)]
            refine bs_iW (some 80) rfl rfl [x 0, x 1] (by simp only [List.map_toArray, List.map_cons, List.map_nil]; rfl) (isl2 _ _ _) rfl (by decide) fun V3 hN3 b3 => ?_
            refine hK.out _ _ (ab_trans hHeld b3) (fun hHeld => ?_)
            clear hK K
            go_frame
            refine wpAnyH_ready (rs := [16]) (by kernel_rfl) (by simp) (AllReadyH.cons rfl (fun K hK => ?_) AllReadyH.nil)
            rw [if_pos (by rfl)]
            refine appiW A (some 81) rfl rfl rfl (O.keep (ab_trans (ab_drew (Below.refl _ _)) b3)) rfl (own_is hN3) (k := 2) rfl (by have := HL.out; omega) hHeld ?_
            intro v4 V4 hown4 hnil4 b4 hgr4
            have O4 := io_of hown4
            refine hK.out _ _ b4 (fun hHeld => ?_)
            clear hK K
            go_frame
            refine takeH (i := 17) (some 3) rfl rfl (by kernel_rfl) (by kernel_rfl) (by kernel_rfl) (fun _ _ _ h => h) (by rfl) (fun w hSw => by (try dsimp only at hSw); go_simp; try rfl) hHeld ?_
            go_frame
            refine wpAnyH_done (by kernel_rfl) ?_ _
            go_wp2_with fail
            go_meet
            case rel => exact ⟨O4, hHeld⟩
          case rest =>
            obtain ⟨O4, b4⟩ := hcut
            have hC4 := ent_cell (HR.out wc b4)
            have d5 := D5.out wc b4
            have HL4 : Hid ((X3 ++ (es.take j2).flatMap enN ++ [x 0, x 1]).length ≤ 150002) := by have := HL.out; show _ ≤ _; rw [List.length_append]; simp only [List.length_cons, List.length_nil]; omega
            have HT4 : Hid (X3 ++ (es.take (j2 + 1)).flatMap enN = (X3 ++ (es.take j2).flatMap enN ++ [x 0, x 1]) ++ numsF (cE x)) := by show _ = _; rw [HT.out]; simp
            clear O hb
            generalize X3 ++ (es.take j2).flatMap enN ++ [x 0, x 1] = Y at *
            go_wp2_with (first
              | (refine ld_cellA rfl rfl hC4 rfl ?_)
              | (go_at_call 56; refine (rnums_any _ _ hxW.2.2).mono ?_; rintro r V5 ⟨v5, rfl, hN5, hv5, b5⟩)
              | (at_builtin; refine app_i A rfl rfl rfl (O4.keep b5) rfl (own_is hN5) rfl (by have := HL4.out; omega) (ab_trans b4 b5) ?_; intro v6 V6 hown6 hnil6 b6 hgr6 hat6))
            refine ⟨⟨j2 + 1, by omega, rfl, ?_, b6⟩, by simp only [intOf]; omega⟩
            rw [HT4.out]
            exact io_of hown6
    · obtain ⟨x, hx⟩ : ∃ x, os[j]? = some x := ⟨os[j], List.getElem?_eq_getElem (by omega)⟩
      obtain rfl := hpo (by omega)
      have hbw := ab_trans hA hb
      have hr : wr.rangeAt go (oo + j * 5) (OA x).toList := fun i v hv => (hbw.cell (p := ⟨go, _, none⟩) (hgo (by omega))).trans (hro j x hx i v hv)
      obtain ⟨x0, x1, x2, x3, x4⟩ := cells_op hr
      have hji : (j : Int) < (m : Int) := by omega
      have hjm : j < m := by omega
      have HT : Hid (X1 ++ (os.take (j + 1)).flatMap opN = (X1 ++ (os.take j).flatMap opN) ++ [x 0, x 1, x 2, x 3, x 4]) := by
        show _ = _
        rw [List.take_add_one, hx, Option.toList_some, List.flatMap_append]
        simp [opN]
      have HL : Hid ((X1 ++ (os.take j).flatMap opN).length ≤ 7000) := by
        have h2 := HX1.out
        show _ ≤ _
        rw [List.length_append, ops_bytes, List.length_take]
        omega
      clear hr hro hpo hgo hx hol hbw hwE hre hpe hge hel D4 D5 HN2
      generalize X1 ++ (os.take j).flatMap opN = Y at *
      go_wp2_with (first
        | (refine bs_own rfl rfl [x 0, x 1, x 2, x 3, x 4] (by simp only [List.map_toArray, List.map_cons, List.map_nil]; rfl) (isl5n _ _ _ _ _ _) rfl (by decide) ?_; intro V3 hN3 b3 z3)
        | (at_builtin; refine app_i A rfl rfl rfl (O.keep (ab_trans (ab_alloc (Below.refl _ _) _) b3)) rfl (own_is hN3) rfl (by have := HL.out; show _ + 5 ≤ _; omega) (ab_trans (ab_alloc hb _) b3) ?_; intro v4 V4 hown4 hnil4 b4 hgr4 hat4))
      refine ⟨⟨j + 1, by omega, rfl, ?_, b4⟩, by simp only [intOf]; omega⟩
      rw [HT.out]
      exact io_of hown4

theorem rencode_no (N : Nt) (vn vo ve : Value) (w : World) (h1 : Is w vn N.ns) (h2 : SR 5 k64 w vo N.os) (h3 : SR 76 ek w ve N.es) (hno : ¬ GoodN N) :
    Calls Try.prog 13 #[ntV N vn vo ve] w fun e w' => e = .returned (.tuple #[.slice none 0 0, .int .i64 2]) ∧ Below w.heap.size w w' := by
  have hA := fun o => ab_alloc (Below.refl w.heap.size w) o
  go_enter Try.func13, Try.ntmps13
  go_wp2_with (go_at_call 16; refine (good_any N vn vo ve _ (h1.keep (hA _)) (h2.keep (hA _)) (h3.keep (hA _))).mono ?_; rintro e W2 ⟨hck, b2⟩; obtain rfl := biff_false hck hno; clear hck)
  go_ret2
  exact ⟨rfl, ab_trans (hA _) b2⟩
set_option maxHeartbeats 1000000 in
set_option maxRecDepth 100000 in
theorem rencode_ok (N : Nt) (vn vo ve : Value) (w : World) (h1 : Is w vn N.ns) (h2 : SR 5 k64 w vo N.os) (h3 : SR 76 ek w ve N.es) (hW : WN N) (hg : GoodN N) :
    Calls Try.prog 13 #[ntV N vn vo ve] w fun e w' => ∃ v', e = .returned (.tuple #[v', .int .i64 0]) ∧ Ow w' w.heap.size v' (bysN N) ∧ Below w.heap.size w w' := by
  have hfit := fitK_le hg.fit
  have HC := good_count hg
  have HL := good_fits hg
  have HI := numsN_fit hW (by omega) (by omega) (by omega)
  have HBy := numsB_byt (numsN N)
  go_enter Try.func13, Try.ntmps13
  go_upto_region 1 with fail
  have hB := Blk.new w #[.int .i64 N.k, .int .i64 N.f, .int .i64 N.t, vn, vo, ve] 26
  have hA := ab_alloc (Below.refl w.heap.size w) (.cells #[.int .i64 N.k, .int .i64 N.f, .int .i64 N.t, vn, vo, ve] 26)
  generalize w.alloc (.cells #[.int .i64 N.k, .int .i64 N.f, .int .i64 N.t, vn, vo, ve] 26) = A at *
  have k1 := h1.keep hA
  have k2 := h2.keep hA
  have k3 := h3.keep hA
  obtain ⟨d0, d1, d2, d3, d4, d5, -, -, -, -, -, -⟩ := six hB
  go_upto_region 3 with (go_at_call 16; refine (good_any N vn vo ve _ k1 k2 k3).mono ?_; rintro e W2 ⟨hck, b2⟩; obtain rfl := biff_true hck hg; clear hck)
  clear d0 d1 d2 d3 d4 d5
  obtain ⟨d0, d1, d2, d3, d4, d5, -, -, -, -, -, -⟩ := six (hB.keep b2)
  go_wp2_with (first
    | (go_at_call 32; refine (rlist_any N vn vo ve _ (k1.keep b2) (k2.keep b2) (k3.keep b2) hW (by omega) (by omega) (by omega)).mono ?_; rintro e W3 ⟨v3, rfl, O3, b3⟩)
    | (go_at_call 31; refine (put_ref _ [] _ (numsN N) _ (sl_nil _) (by simp) O3.is HC HI).mono ?_; rintro e W4 ⟨v4, rfl, O4, b4⟩; have s4 := O4.sl; rw [List.nil_append] at s4)
    | (go_at_call 30; refine (rwrap_ok _ _ _ s4 HBy HL).mono ?_; rintro e W6 ⟨v6, rfl, O6, b6⟩))
  go_ret2
  have b7 := ab_trans (ab_trans b2 b3) (ab_trans b4 b6)
  have z6 : w.heap.size ≤ W4.heap.size := Nat.le_trans hA.size (ab_trans (ab_trans b2 b3) b4).size
  exact ⟨_, rfl, O6.less z6, ab_trans hA b7⟩
end Go.Proofs.Ytjbhicjnnghjjaa
namespace Go.Proofs.Ytjbhicjnnghjjaa
open Go.RowKit
set_option linter.unusedVariables false

def rV (l : List Nat) : Int := if nOK l = true then nV l else 0
def rS (l : List Nat) : Nat := if nOK l = true then nS l else 0
theorem rtake_any (v : Value) (l : List Nat) (w : World) (hv : Sl w v l) (hb : Byt l) (hl : l.length ≤ 100000) :
    Calls Try.prog 62 #[v] w fun e w' => e = .returned (.tuple #[.int .i64 (rV l), .int .i64 ((rS l : Nat) : Int)]) ∧ Below w.heap.size w w' := by
  by_cases h : 0 < l.length ∧ l.getD 0 0 ≤ 8 ∧ l.getD 0 0 < l.length
  · exact rtake_long v l w hv hb hl h.1 h.2.1 h.2.2
  · have hno : ¬ nOK l = true := fun hk => h ⟨((nOK_iff l).1 hk).1, ((nOK_iff l).1 hk).2.1, ((nOK_iff l).1 hk).2.2.1⟩
    have := rtake_short v l w hv hb hl h
    unfold rV rS
    rw [if_neg hno, if_neg hno]
    exact this
/-- What the document's Nums answers. -/
structure RP (W : World) (base : Nat) (r : Option (List Int)) (e : Ending) : Prop where
  some : ∀ x, r = some x → ∃ v', e = .returned (.tuple #[v', .bool true]) ∧ Io W base v' x
  none : r = none → e = .returned (.tuple #[.slice none 0 0, .bool false])
set_option maxHeartbeats 1000000 in
theorem fr_nums_any (v : Value) (l : List Nat) (most : Int) (w : World) (hv : Sl w v l) (hb : Byt l) (hl : l.length ≤ 100000) :
    Calls Try.prog 40 #[v, .int .i64 most] w fun e w' => RP w' w.heap.size (numsR l most) e ∧ Below w.heap.size w w' := by
  obtain ⟨q, cap, e, -⟩ := id hv
  subst e
  generalize hn : l.length = n at *
  go_enter Try.func40, Try.ntmps40
  go_wp2_with fail
  go_loopw [0, 6] (fun x y wr => ∃ rest done, Sl w x rest ∧ Byt rest ∧ Io wr w.heap.size y done ∧ nus l = (nus rest).map (done ++ ·) ∧ done.length + rest.length ≤ n ∧ Below w.heap.size w wr) (fun x _ _ => slLen x)
  case atStart => exact ⟨l, [], hv, hb, io_of (World.ownsRow_nil w _ _ _), by simp, by simp [hn], Below.refl _ _⟩
  case round =>
    obtain ⟨rest, done, S, B, O, HN, hlen, hbw⟩ := hrel
    obtain ⟨q2, cap2, e, -⟩ := id S
    subst e
    have Sr := S.keep hbw
    obtain ⟨q3, cap3, e⟩ := O.form
    subst e
    have HN' : Hid (nus l = (nus rest).map (done ++ ·)) := HN
    clear HN
    by_cases c : rest = []
    · subst c
      have HS : nus l = some done := by rw [HN'.out, nus_nil]; simp
      have HR : Hid (numsR l most = if 0 < done.length ∧ most < (done.length : Int) then none else some done) := by show _ = _; rw [numsR, HS, Option.bind_some]
      have hO := O
      generalize hd : done.length = k at *
      by_cases c1 : 0 < k ∧ most < (k : Int)
      · obtain ⟨c1, c2⟩ := c1
        have HR2 : Hid (numsR l most = none) := by show _ = _; rw [HR.out, if_pos ⟨c1, c2⟩]
        have c3 : (0 : Int) < (k : Int) := by omega
        go_wp2_with fail
        go_ret2
        exact ⟨⟨fun x hx => (by rw [HR2.out] at hx; cases hx), fun _ => rfl⟩, hbw⟩
      · have HR2 : Hid (numsR l most = some done) := by show _ = _; rw [HR.out, if_neg c1]
        by_cases c2 : 0 < k
        · have c3 : (0 : Int) < (k : Int) := by omega
          have c4 : ¬ most < (k : Int) := fun h => c1 ⟨c2, h⟩
          go_wp2_with fail
          go_ret2
          refine ⟨⟨fun x hx => ?_, fun hx => by rw [HR2.out] at hx; cases hx⟩, hbw⟩
          rw [HR2.out] at hx
          cases hx
          exact ⟨_, rfl, hO⟩
        · have e0 : k = 0 := by omega
          subst e0
          go_wp2_with fail
          go_ret2
          refine ⟨⟨fun x hx => ?_, fun hx => by rw [HR2.out] at hx; cases hx⟩, hbw⟩
          rw [HR2.out] at hx
          cases hx
          exact ⟨_, rfl, hO⟩
    · have hpos : 0 < rest.length := List.length_pos_iff.2 c
      have hmi0 : (0 : Int) < (rest.length : Int) := by omega
      cases hok : nOK rest with
      | false =>
        have HR : Hid (numsR l most = none) := numsR_none (by rw [HN'.out, nus_no c hok]; rfl)
        have HT : Hid (∀ W, Sl W (.slice q2 rest.length cap2) rest → Calls Try.prog 62 #[.slice q2 rest.length cap2] W fun e w' => e = .returned (.tuple #[.int .i64 0, .int .i64 0]) ∧ Below W.heap.size W w') := fun W h => by
          have := rtake_any _ _ W h B (by omega)
          have e1 : rV rest = 0 := by unfold rV; rw [if_neg (by simp [hok])]
          have e2 : rS rest = 0 := by unfold rS; rw [if_neg (by simp [hok])]
          rw [e1, e2] at this
          exact this
        generalize hr : rest.length = m at *
        generalize hd : done.length = k at *
        go_wp2_with (go_at_call 62; refine (HT.out _ Sr).mono ?_; rintro e W2 ⟨rfl, hb2⟩)
        go_ret2
        exact ⟨⟨fun x hx => (by rw [HR.out] at hx; cases hx), fun _ => rfl⟩, ab_trans hbw hb2⟩
      | true =>
        have HS : Hid (nus l = (nus (rest.drop (nS rest))).map ((done ++ [nV rest]) ++ ·)) := nus_step HN'.out hok
        have hnS := nS_le hok
        have hbd := B.drop (nS rest)
        have HT : Hid (∀ W, Sl W (.slice q2 rest.length cap2) rest → Calls Try.prog 62 #[.slice q2 rest.length cap2] W fun e w' => e = .returned (.tuple #[.int .i64 (nV rest), .int .i64 ((nS rest : Nat) : Int)]) ∧ Below W.heap.size W w') := fun W h => by
          have := rtake_any _ _ W h B (by omega)
          have e1 : rV rest = nV rest := by unfold rV; rw [if_pos hok]
          have e2 : rS rest = nS rest := by unfold rS; rw [if_pos hok]
          rw [e1, e2] at this
          exact this
        have HL : Hid ((rest.drop (nS rest)).length = rest.length - nS rest) := by show _ = _; rw [List.length_drop]
        have HD : Hid ((done ++ [nV rest]).length = done.length + 1) := by show _ = _; rw [List.length_append]; rfl
        generalize hr : rest.length = m at *
        generalize hd : done.length = k at *
        have O2 : wr.ownsRow w.heap.size 3 1 (.slice q3 k cap3) k (ints done) := by
          have := O
          unfold Io at this
          rwa [hd] at this
        generalize hV : nV rest = x at *
        generalize hSz : nS rest = sz at *
        have hsz0 : ((sz : Int) == 0) = false := by simp; omega
        clear hok
        go_wp2_with (first
          | (go_at_call 62; refine (HT.out _ Sr).mono ?_; rintro e W2 ⟨rfl, hb2⟩)
          | (refine bs_own rfl rfl [x] (by simp only [List.map_toArray, List.map_cons, List.map_nil]; rfl) (isl1 _ _) rfl (by decide) ?_; intro V3 hN3 hb3 z3)
          | (at_builtin; refine app_i _ rfl rfl rfl (own_keep (own_keep O2 hb2) hb3) rfl (own_is hN3) rfl (by show k + 1 ≤ _; omega) (ab_trans (ab_trans hbw hb2) hb3) ?_; intro v4 V4 hown4 hnil4 hb4 hgr4 hat4)
          | (refine slb_l' w rfl rfl sz rfl rfl rfl hnS.1 S ?_; intro q5 s5))
        refine ⟨⟨rest.drop sz, done ++ [x], s5, hbd, io_of hown4, HS.out, ?_, hb4⟩, ?_⟩
        · rw [HD.out, HL.out]; omega
        · simp only [slLen]; omega
end Go.Proofs.Ytjbhicjnnghjjaa
