/-
  The document's tape: Append, Sync, Replace, Cut, Crash; estuarynum.Num of any error.
-/
import Derived.Test.YtalbiggmmmkclaaTpR
namespace Go.Proofs.Ytalbiggmmmkclaa
open Go.RowKit
set_option linter.unusedVariables false

theorem chg_drewN (b : Nat) (w : World) (n : Nat) : Chg b w (w.drewN n) := ⟨rfl, rfl, rfl, rfl, fun _ _ => rfl⟩
theorem chg_drew (b : Nat) (w : World) : Chg b w w.drew := ⟨rfl, rfl, rfl, rfl, fun _ _ => rfl⟩
theorem strB_nil : (⟨#[]⟩ : ByteArray) = strB [] := rfl
theorem rcs_eq (S S' : TS) (ar : Bool) (lf un : Int) (x y : List Nat) (hx : S'.l.take S'.sure = x) (hy : S'.l.drop S'.sure = y) (h2 : S'.steps = S.steps) (h4 : S'.rs = S.rs) (h7 : S'.down = S.down) :
    ((rcs S ar lf un).setIfInBounds 0 (.string (strB x))).setIfInBounds 1 (.string (strB y)) = rcs S' ar lf un := by
  unfold rcs; rw [hx, hy, h2, h4, h7]; rfl
theorem rcs_eq1 (S S' : TS) (ar : Bool) (lf un : Int) (y : List Nat) (hx : S'.l.take S'.sure = S.l.take S.sure) (hy : S'.l.drop S'.sure = y) (h2 : S'.steps = S.steps) (h4 : S'.rs = S.rs) (h7 : S'.down = S.down) :
    (rcs S ar lf un).setIfInBounds 1 (.string (strB y)) = rcs S' ar lf un := by
  unfold rcs; rw [hx, hy, h2, h4, h7]; rfl
theorem num_any (n : Nat) (w : World) : Calls Try.prog 15 #[errV n] w fun e w' => e = .returned (.int .i64 ((n : Nat) : Int)) ∧ w' = w := by
  by_cases h : n = 0
  · subst h; exact num_nil w
  · rw [errV_no h]; exact num_err _ (by omega) w
set_option maxHeartbeats 1000000 in
theorem rappend_any (r : Nat) (S : TS) (m : List Nat) (w : World) (h : Rf w r S) (hsu : S.sure ≤ S.l.length) (hmx : S.l.length ≤ 1048576) (hm : m.length ≤ 1000000) (hst : S.steps < 4611686018427387904) (hoa : S.oa ≤ 9223372036854775807) (hra : S.ra ≤ 9223372036854775807) :
    Calls Try.prog 43 #[tptr r, .string (strB m)] w fun e w' => e = .returned (.int .i64 ((apN S m.length : Nat) : Int)) ∧ Rf w' r (apS S m) ∧ Chg r w w' := by
  have hl3 := stS_l S
  obtain ⟨ar, lf, un, hB, har, hlf, hun⟩ := id h
  have c0 := (octR hB).c0
  have c1 := (octR hB).c1
  have z0 : (strB (S.l.take S.sure)).size = S.sure := by rw [strB_len, List.length_take]; omega
  have z1 : (strB (S.l.drop S.sure)).size = S.l.length - S.sure := by rw [strB_len, List.length_drop]
  have zm : (strB m).size = m.length := strB_len m
  have HN : Hid (apN S m.length = if S.l.length + m.length ≤ 1048576 then stN S else 7) := rfl
  have HS : Hid (apS S m = if S.l.length + m.length ≤ 1048576 then (if stN S = 0 then { stS S with l := S.l ++ m } else stS S) else S) := rfl
  have HTk : Hid ((S.l ++ m).take S.sure = S.l.take S.sure) := List.take_append_of_le_length hsu
  have HDr : Hid ((S.l ++ m).drop S.sure = S.l.drop S.sure ++ m) := List.drop_append_of_le_length hsu
  clear hB har hlf hun
  go_enter Try.func43, Try.ntmps43
  go_upto_region 1 with fail
  generalize hn : S.l.length = n at *
  generalize hs : S.sure = s at *
  generalize hk : m.length = k at *
  obtain ⟨a, ha⟩ : ∃ a, n - s = a := ⟨_, rfl⟩
  rw [ha] at z1
  go_quiet (fail)
  have b1 : Below w.heap.size w (w.drewN nq) := below_drewN (Below.refl _ _) nq
  have h1 := h.keep b1
  have bq := chg_drewN r w nq
  clear c0 c1 z0 z1
  generalize w.drewN nq = V at *
  by_cases hfit : n + k ≤ 1048576
  · have hfi : ¬ (1048576 : Int) < (s : Int) + (a : Int) + (k : Int) := by omega
    go_upto_region 4 with (go_at_call 53; refine (rstep_any r S _ h1 hst hoa hra).mono ?_; rintro e V2 ⟨rfl, h2, k2⟩)
    by_cases h0 : stN S = 0
    · have HN2 : Hid (apN S k = 0) := HN.out.trans ((if_pos hfit).trans h0)
      have HS2 : Hid (apS S m = { stS S with l := S.l ++ m }) := HS.out.trans ((if_pos hfit).trans (if_pos h0))
      rw [h0]
      obtain ⟨ar, lf, un, hB, har, hlf, hun⟩ := h2
      have c1 := (octR hB).c1
      rw [hl3.1, hl3.2] at c1
      have f1 := hB.frozen 1
      have hsz : ¬ 9223372036854775807 < (strB (S.l.drop s)).size + (strB m).size := by rw [strB_len, strB_len, List.length_drop]; omega
      rw [zm] at hsz
      clear HN HS h0 hl3
      go_wp2_with fail
      go_ret
      refine ⟨by (try rw [hk]); rw [HN2.out]; rfl, ?_, bq.trans (k2.trans (chg_set _ _ _ _))⟩
      rw [HS2.out, strB_app]
      have hl3 := stS_l S
      exact ⟨ar, lf, un, by rw [← rcs_eq1 (stS S) { stS S with l := S.l ++ m } ar lf un (S.l.drop s ++ m) (by show (S.l ++ m).take (stS S).sure = _; rw [hl3.1, hl3.2, hs, HTk.out]) (by show (S.l ++ m).drop (stS S).sure = _; rw [hl3.2, hs, HDr.out]) rfl rfl rfl]; exact hB.set 1 _, har, hlf, hun⟩
    · have HN2 : Hid (apN S k = stN S) := HN.out.trans (if_pos hfit)
      have HS2 : Hid (apS S m = stS S) := HS.out.trans ((if_pos hfit).trans (if_neg h0))
      have h0' : (((stN S : Nat) : Int) == 0) = false := by simp [h0]
      generalize hX : ((stN S : Nat) : Int) = X at *
      go_wp2_with fail
      go_ret
      exact ⟨by (try rw [hk]); rw [HN2.out, hX]; rfl, by rw [HS2.out]; exact h2, bq.trans k2⟩
  · have hfi : (1048576 : Int) < (s : Int) + (a : Int) + (k : Int) := by omega
    have HN2 : Hid (apN S k = 7) := HN.out.trans (if_neg hfit)
    have HS2 : Hid (apS S m = S) := HS.out.trans (if_neg hfit)
    go_wp2_with fail
    go_ret
    exact ⟨by (try rw [hk]); rw [HN2.out]; rfl, by rw [HS2.out]; exact h1, bq⟩
set_option maxHeartbeats 1000000 in
theorem rsync_any (r : Nat) (S : TS) (w : World) (h : Rf w r S) (hsu : S.sure ≤ S.l.length) (hmx : S.l.length ≤ 1048576) (hst : S.steps < 4611686018427387904) (hoa : S.oa ≤ 9223372036854775807) (hra : S.ra ≤ 9223372036854775807) :
    Calls Try.prog 44 #[tptr r] w fun e w' => e = .returned (.int .i64 ((stN S : Nat) : Int)) ∧ Rf w' r (syS S) ∧ Chg r w w' := by
  have hl3 := stS_l S
  go_enter Try.func44, Try.ntmps44
  go_upto_region 2 with (go_at_call 53; refine (rstep_any r S _ h hst hoa hra).mono ?_; rintro e V2 ⟨rfl, h2, k2⟩)
  by_cases h0 : stN S = 0
  · have HS2 : Hid (syS S = { stS S with sure := S.l.length }) := if_pos h0
    have HN2 : Hid (stN S = 0) := h0
    rw [h0]
    clear h0
    obtain ⟨ar, lf, un, hB, har, hlf, hun⟩ := h2
    go_upto_region 3 with fail
    have hB' : Blk V2.drew r (rcs (stS S) ar lf un) 29 := hB
    have kd := chg_drew r V2
    refine region_L 12 (S := fun w' => w' = V2.drew) (by kernel_rfl) rfl (fun hHeld => ?_)
    generalize V2.drew = V at *
    have c0 := (octR hB').c0
    have c1 := (octR hB').c1
    rw [hl3.1, hl3.2] at c0 c1
    have f0 := hB'.frozen 0
    have f1 := hB'.frozen 1
    refine takeL (i := 0) [10, 11, 12] (some 8) (by rfl) rfl rfl (by kernel_rfl) (by kernel_rfl) (by kernel_rfl) (by kernel_rfl) (fun _ _ _ h => h) (by rfl) (fun w hSw => by (try dsimp only at hSw); go_simp; try rfl) hHeld ?_
    go_frame
    refine takeL (i := 1) [2, 3, 4, 9, 12] (some 9) (by rfl) rfl rfl (by kernel_rfl) (by kernel_rfl) (by kernel_rfl) (by kernel_rfl) (fun _ _ _ h => h) (by rfl) (fun w hSw => by (try dsimp only at hSw); go_simp; try rfl) hHeld ?_
    go_frame
    refine takeL (i := 2) [3, 4, 9, 12] (some 10) (by rfl) rfl rfl (by kernel_rfl) (by kernel_rfl) (by kernel_rfl) (by kernel_rfl) (fun _ _ _ h => h) (by rfl) (fun w hSw => by (try dsimp only at hSw); go_simp; try rfl) hHeld ?_
    go_frame
    refine takeL (i := 3) [4, 9, 12] (some 11) (by rfl) rfl rfl (by kernel_rfl) (by kernel_rfl) (by kernel_rfl) (by kernel_rfl) (fun _ _ _ h => h) (by rfl) (fun w hSw => by (try dsimp only at hSw); go_simp; try rfl) hHeld ?_
    go_frame
    refine takeL (i := 4) [9, 12] (some 12) (by rfl) rfl rfl (by kernel_rfl) (by kernel_rfl) (by kernel_rfl) (by kernel_rfl) (fun _ _ _ h => h) (by rfl) (fun w hSw => by (try dsimp only at hSw); (subst hSw; go_simp; try rfl)) hHeld ?_
    go_frame
    refine takeL (i := 5) [6, 7, 8, 9, 12] (some 13) (by rfl) rfl rfl (by kernel_rfl) (by kernel_rfl) (by kernel_rfl) (by kernel_rfl) (fun _ _ _ h => h) (by rfl) (fun w hSw => by (try dsimp only at hSw); go_simp; try rfl) hHeld ?_
    go_frame
    refine takeL (i := 6) [7, 8, 9, 12] (some 14) (by rfl) rfl rfl (by kernel_rfl) (by kernel_rfl) (by kernel_rfl) (by kernel_rfl) (fun _ _ _ h => h) (by rfl) (fun w hSw => by (try dsimp only at hSw); go_simp; try rfl) hHeld ?_
    go_frame
    refine takeL (i := 7) [8, 9, 12] (some 15) (by rfl) rfl rfl (by kernel_rfl) (by kernel_rfl) (by kernel_rfl) (by kernel_rfl) (fun _ _ _ h => h) (by rfl) (fun w hSw => by (try dsimp only at hSw); go_simp; try rfl) hHeld ?_
    go_frame
    refine takeL (i := 8) [9, 12] (some 16) (by rfl) rfl rfl (by kernel_rfl) (by kernel_rfl) (by kernel_rfl) (by kernel_rfl) (fun _ _ _ h => h) (by rfl) (fun w hSw => by (try dsimp only at hSw); (subst hSw; go_simp; try rfl)) hHeld ?_
    go_frame
    refine takeL (i := 9) [12] (some 17) (by rfl) rfl rfl (by kernel_rfl) (by kernel_rfl) (by kernel_rfl) (by kernel_rfl) (fun _ _ _ h => h) (by rfl) (fun w hSw => by (try dsimp only at hSw); (refine (?_ : _ = Result.ok (Next.value (.string (strB S.l))) _); go_simp; rw [if_neg (by rw [strB_len, strB_len, List.length_take, List.length_drop]; omega), strB_app, List.take_append_drop])) hHeld ?_
    go_frame
    refine takeL (i := 10) [11, 12] (some 18) (by rfl) rfl rfl (by kernel_rfl) (by kernel_rfl) (by kernel_rfl) (by kernel_rfl) (fun _ _ _ h => h) (by rfl) (fun w hSw => by (try dsimp only at hSw); go_simp; try rfl) hHeld ?_
    go_frame
    refine takeL (i := 11) [12] (some 19) (by rfl) rfl rfl (by kernel_rfl) (by kernel_rfl) (by kernel_rfl) (by kernel_rfl) (fun _ _ _ h => h) (by rfl) (fun w hSw => by (try dsimp only at hSw); go_simp; try rfl) hHeld ?_
    go_frame
    refine anyL_ready (rs := [12]) (by kernel_rfl) (by simp) (AllL.last rfl (by kernel_rfl) (fun K hK => ?_))
    go_simp
    refine hK.out _ _ ?_
    clear hK K
    refine anyL_done (by kernel_rfl) ?_
    have hB6 := hB'.set 0 (.string (strB S.l))
    have k6 := chg_set V r 0 (.string (strB S.l))
    clear c0 c1 f0 f1 hHeld
    generalize V.setCell ⟨r, 0, none⟩ (.string (strB S.l)) = V6 at *
    have d1 := hB6.at (i := 1) rfl
    have f1 := hB6.frozen 1
    go_wp2_with fail
    go_ret
    refine ⟨by rw [HN2.out]; rfl, ?_, ((k2.trans kd).trans k6).trans (chg_set _ _ _ _)⟩
    rw [HS2.out]
    exact ⟨ar, lf, un, by rw [← rcs_eq (stS S) { stS S with sure := S.l.length } ar lf un S.l [] (by show (stS S).l.take S.l.length = _; rw [hl3.1, List.take_length]) (by show (stS S).l.drop S.l.length = _; rw [hl3.1, List.drop_length]) rfl rfl rfl]; exact hB6.set 1 _, har, hlf, hun⟩
  · have HS2 : Hid (syS S = stS S) := if_neg h0
    have h0' : (((stN S : Nat) : Int) == 0) = false := by simp [h0]
    generalize hX : ((stN S : Nat) : Int) = X at *
    go_wp2_with fail
    go_ret
    exact ⟨by rw [hX]; rfl, by rw [HS2.out]; exact h2, k2⟩
set_option maxHeartbeats 1000000 in
theorem rreplace_any (r : Nat) (S : TS) (m : List Nat) (w : World) (h : Rf w r S) (hm : m.length ≤ 1000000) (hst : S.steps < 4611686018427387904) (hoa : S.oa ≤ 9223372036854775807) (hra : S.ra ≤ 9223372036854775807) :
    Calls Try.prog 39 #[tptr r, .string (strB m)] w fun e w' => e = .returned (.int .i64 ((rpN S m.length : Nat) : Int)) ∧ Rf w' r (rpS S m) ∧ Chg r w w' := by
  have hfi : ¬ (1048576 : Int) < (m.length : Int) := by omega
  have zm : (strB m).size = m.length := strB_len m
  have HN : Hid (rpN S m.length = stN S) := if_pos (by omega)
  have HS : Hid (rpS S m = if stN S = 0 then { stS S with l := m, sure := m.length } else stS S) := if_pos (by omega)
  go_enter Try.func39, Try.ntmps39
  go_upto_region 4 with (go_at_call 53; refine (rstep_any r S _ h hst hoa hra).mono ?_; rintro e V2 ⟨rfl, h2, k2⟩)
  by_cases h0 : stN S = 0
  · have HS2 : Hid (rpS S m = { stS S with l := m, sure := m.length }) := HS.out.trans (if_pos h0)
    have HN2 : Hid (rpN S m.length = 0) := HN.out.trans h0
    rw [h0]
    clear h0 HN HS
    obtain ⟨ar, lf, un, hB, har, hlf, hun⟩ := h2
    have c0 := (octR hB).c0
    have c1 := (octR hB).c1
    have f0 := hB.frozen 0
    have f1 := hB.frozen 1
    go_wp2_with fail
    go_ret
    refine ⟨by rw [HN2.out]; rfl, ?_, (k2.trans (chg_set _ _ _ _)).trans (chg_set _ _ _ _)⟩
    rw [HS2.out]
    exact ⟨ar, lf, un, by rw [← rcs_eq (stS S) { stS S with l := m, sure := m.length } ar lf un m [] (by show m.take m.length = _; rw [List.take_length]) (by show m.drop m.length = _; rw [List.drop_length]) rfl rfl rfl]; exact (hB.set 0 _).set 1 _, har, hlf, hun⟩
  · have HS2 : Hid (rpS S m = stS S) := HS.out.trans (if_neg h0)
    have h0' : (((stN S : Nat) : Int) == 0) = false := by simp [h0]
    generalize hX : ((stN S : Nat) : Int) = X at *
    go_wp2_with fail
    go_ret
    exact ⟨by rw [HN.out, hX]; rfl, by rw [HS2.out]; exact h2, k2⟩
set_option maxHeartbeats 1000000 in
theorem rcut_any (r : Nat) (S : TS) (w : World) (h : Rf w r S) (hsu : S.sure ≤ S.l.length) :
    Calls Try.prog 45 #[tptr r] w fun e w' => e = .returned (.tuple #[]) ∧ Rf w' r (ctS S) ∧ Chg r w w' := by
  obtain ⟨ar, lf, un, hB, har, hlf, hun⟩ := h
  have c1 := (octR hB).c1
  have c7 := (octR hB).c7
  have f1 := hB.frozen 1
  by_cases hd : S.down = true
  · have hS : Hid (ctS S = S) := if_pos hd
    rw [hd] at c7
    go_enter Try.func45, Try.ntmps45
    go_wp2_with fail
    go_end0
    exact ⟨rfl, by rw [hS.out]; exact ⟨ar, lf, un, hB, har, hlf, hun⟩, Chg.refl _ _⟩
  · have hS : Hid (ctS S = { S with l := S.l.take S.sure }) := if_neg hd
    have hd' : S.down = false := by simpa using hd
    rw [hd'] at c7
    go_enter Try.func45, Try.ntmps45
    go_wp2_with fail
    go_end0
    refine ⟨rfl, ?_, chg_set _ _ _ _⟩
    rw [hS.out]
    exact ⟨ar, lf, un, by rw [← rcs_eq1 S { S with l := S.l.take S.sure } ar lf un [] (by show (S.l.take S.sure).take S.sure = _; rw [List.take_take, Nat.min_self]) (by show (S.l.take S.sure).drop S.sure = _; rw [List.drop_eq_nil_of_le (by rw [List.length_take]; omega)]) rfl rfl rfl]; exact hB.set 1 _, har, hlf, hun⟩
end Go.Proofs.Ytalbiggmmmkclaa
