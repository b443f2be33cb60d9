/-
  The document's tape: Crash; estuarynum.Over.
-/
import Derived.Test.YtalbiggmmmkclaaTpS
namespace Go.Proofs.Ytalbiggmmmkclaa
open Go.RowKit
set_option linter.unusedVariables false

theorem crs_eq (S : TS) (ar : Bool) (lf un : Int) (j : Nat) (hj : j ≤ S.l.length) :
    (((((rcs S ar lf un).setIfInBounds 0 (.string (strB (S.l.take j)))).setIfInBounds 1 (.string ⟨#[]⟩)).setIfInBounds 3 (.bool false)).setIfInBounds 4 (.bool false)).setIfInBounds 7 (.bool false) = rcs ⟨S.l.take j, j, S.steps, false, 0, false, 0, false⟩ false lf un := by
  have h1 : (S.l.take j).take j = S.l.take j := by rw [List.take_take, Nat.min_self]
  have h2 : (S.l.take j).drop j = [] := List.drop_eq_nil_of_le (by rw [List.length_take]; omega)
  unfold rcs
  dsimp only
  rw [h1, h2]
  rfl
set_option maxHeartbeats 2000000 in
theorem rcrash_any (r : Nat) (S : TS) (k : Int) (w : World) (h : Rf w r S) (hsu : S.sure ≤ S.l.length) (hmx : S.l.length ≤ 1048576) (hk : -9223372036854775808 ≤ k ∧ k ≤ 9223372036854775807) :
    Calls Try.prog 26 #[tptr r, .int .i64 k] w fun e w' => e = .returned (.tuple #[]) ∧ Rf w' r (crS S k) ∧ Chg r w w' := by
  obtain ⟨ar, lf, un, hB, har, hlf, hun⟩ := h
  clear har hlf hun
  obtain ⟨M, hM⟩ : ∃ M, kp S k = M := ⟨_, rfl⟩
  have hM1 : M ≤ S.l.length - S.sure := by rw [← hM]; unfold kp; omega
  have HS : Hid (crS S k = ⟨S.l.take (S.sure + M), S.sure + M, S.steps, false, 0, false, 0, false⟩) := by show _ = _; unfold crS; rw [hM]
  have HML : Hid (M ≤ (S.l.drop S.sure).length) := by show _ ≤ _; rw [List.length_drop]; exact hM1
  have c1 := (octR hB).c1
  have z1 : (strB (S.l.drop S.sure)).size = S.l.length - S.sure := by rw [strB_len, List.length_drop]
  obtain ⟨a, ha⟩ : ∃ a, S.l.length - S.sure = a := ⟨_, rfl⟩
  rw [ha] at z1
  unfold kp at hM
  go_enter Try.func26, Try.ntmps26
  by_cases hneg : k < 0
  · have HE : Hid (M = 0) := by show _ = _; omega
    have h00 : ¬ (a : Int) < 0 := by omega
    go_upto_region 4 with fail
    have hB' : Blk w.drew r (rcs S ar lf un) 29 := hB
    have kd := chg_drew r w
    refine region_L 14 (S := fun w' => w' = w.drew) (by kernel_rfl) rfl (fun hHeld => ?_)
    clear c1
    generalize w.drew = V at *
    have c0 := (octR hB').c0
    have c1 := (octR hB').c1
    have f0 := hB'.frozen 0
    refine takeL (i := 0) [12, 13, 14] (some 18) (by rfl) rfl rfl (by kernel_rfl) (by kernel_rfl) (by kernel_rfl) (by kernel_rfl) (fun _ _ _ h => h) (by rfl) (fun w hSw => by (try dsimp only at hSw); go_simp; try rfl) hHeld ?_
    go_frame
    refine takeL (i := 1) [2, 3, 4, 11, 14] (some 19) (by rfl) rfl rfl (by kernel_rfl) (by kernel_rfl) (by kernel_rfl) (by kernel_rfl) (fun _ _ _ h => h) (by rfl) (fun w hSw => by (try dsimp only at hSw); go_simp; try rfl) hHeld ?_
    go_frame
    refine takeL (i := 2) [3, 4, 11, 14] (some 20) (by rfl) rfl rfl (by kernel_rfl) (by kernel_rfl) (by kernel_rfl) (by kernel_rfl) (fun _ _ _ h => h) (by rfl) (fun w hSw => by (try dsimp only at hSw); go_simp; try rfl) hHeld ?_
    go_frame
    refine takeL (i := 3) [4, 11, 14] (some 21) (by rfl) rfl rfl (by kernel_rfl) (by kernel_rfl) (by kernel_rfl) (by kernel_rfl) (fun _ _ _ h => h) (by rfl) (fun w hSw => by (try dsimp only at hSw); go_simp; try rfl) hHeld ?_
    go_frame
    refine takeL (i := 4) [11, 14] (some 22) (by rfl) rfl rfl (by kernel_rfl) (by kernel_rfl) (by kernel_rfl) (by kernel_rfl) (fun _ _ _ h => h) (by rfl) (fun w hSw => by (try dsimp only at hSw); (subst hSw; go_simp; try rfl)) hHeld ?_
    go_frame
    refine takeL (i := 5) [6, 7, 8, 10, 11, 14] (some 23) (by rfl) rfl rfl (by kernel_rfl) (by kernel_rfl) (by kernel_rfl) (by kernel_rfl) (fun _ _ _ h => h) (by rfl) (fun w hSw => by (try dsimp only at hSw); go_simp; try rfl) hHeld ?_
    go_frame
    refine takeL (i := 6) [7, 8, 10, 11, 14] (some 24) (by rfl) rfl rfl (by kernel_rfl) (by kernel_rfl) (by kernel_rfl) (by kernel_rfl) (fun _ _ _ h => h) (by rfl) (fun w hSw => by (try dsimp only at hSw); go_simp; try rfl) hHeld ?_
    go_frame
    refine takeL (i := 7) [8, 10, 11, 14] (some 25) (by rfl) rfl rfl (by kernel_rfl) (by kernel_rfl) (by kernel_rfl) (by kernel_rfl) (fun _ _ _ h => h) (by rfl) (fun w hSw => by (try dsimp only at hSw); go_simp; try rfl) hHeld ?_
    go_frame
    refine takeL (i := 8) [10, 11, 14] (some 26) (by rfl) rfl rfl (by kernel_rfl) (by kernel_rfl) (by kernel_rfl) (by kernel_rfl) (fun _ _ _ h => h) (by rfl) (fun w hSw => by (try dsimp only at hSw); (subst hSw; go_simp; try rfl)) hHeld ?_
    go_frame
    refine takeL (i := 9) [10, 11, 14] (some 27) (by rfl) rfl rfl (by kernel_rfl) (by kernel_rfl) (by kernel_rfl) (by kernel_rfl) (fun _ _ _ h => h) (by rfl) (fun w hSw => by (try dsimp only at hSw); go_simp; try rfl) hHeld ?_
    go_frame
    refine takeL (i := 10) [11, 14] (some 28) (by rfl) rfl rfl (by kernel_rfl) (by kernel_rfl) (by kernel_rfl) (by kernel_rfl) (fun _ _ _ h => h) (by rfl) (fun w hSw => by (try dsimp only at hSw); exact ss_run (l := S.l.drop S.sure) (j := M) rfl rfl rfl (by have := HE.out; omega) HML.out) hHeld ?_
    go_frame
    refine takeL (i := 11) [14] (some 29) (by rfl) rfl rfl (by kernel_rfl) (by kernel_rfl) (by kernel_rfl) (by kernel_rfl) (fun _ _ _ h => h) (by rfl) (fun w hSw => by (try dsimp only at hSw); (refine (?_ : _ = Result.ok (Next.value (.string (strB (S.l.take (S.sure + M))))) _); go_simp; rw [if_neg (by rw [strB_len, strB_len, List.length_take, List.length_take, List.length_drop]; omega), strB_app, ← List.take_add])) hHeld ?_
    go_frame
    refine takeL (i := 12) [13, 14] (some 30) (by rfl) rfl rfl (by kernel_rfl) (by kernel_rfl) (by kernel_rfl) (by kernel_rfl) (fun _ _ _ h => h) (by rfl) (fun w hSw => by (try dsimp only at hSw); go_simp; try rfl) hHeld ?_
    go_frame
    refine takeL (i := 13) [14] (some 31) (by rfl) rfl rfl (by kernel_rfl) (by kernel_rfl) (by kernel_rfl) (by kernel_rfl) (fun _ _ _ h => h) (by rfl) (fun w hSw => by (try dsimp only at hSw); go_simp; try rfl) hHeld ?_
    go_frame
    refine anyL_ready (rs := [14]) (by kernel_rfl) (by simp) (AllL.last rfl (by kernel_rfl) (fun K hK => ?_))
    go_simp
    refine hK.out _ _ ?_
    clear hK K
    refine anyL_done (by kernel_rfl) ?_
    have hB6 := hB'.set 0 (.string (strB (S.l.take (S.sure + M))))
    have k6 := chg_set V r 0 (.string (strB (S.l.take (S.sure + M))))
    clear c0 c1 f0 hHeld
    generalize V.setCell ⟨r, 0, none⟩ (.string (strB (S.l.take (S.sure + M)))) = V6 at *
    have d1 := hB6.at (i := 1) rfl
    have d3 := hB6.at (i := 3) rfl
    have d4 := hB6.at (i := 4) rfl
    have d7 := hB6.at (i := 7) rfl
    have f1 := hB6.frozen 1
    have f3 := hB6.frozen 3
    have f4 := hB6.frozen 4
    have f7 := hB6.frozen 7
    go_wp2_with fail
    go_end0
    refine ⟨rfl, ?_, (((((kd.trans k6).trans (chg_set _ _ _ _)).trans (chg_set _ _ _ _)).trans (chg_set _ _ _ _)).trans (chg_set _ _ _ _))⟩
    rw [HS.out]
    refine ⟨false, lf, un, ?_, (fun _ => rfl), (fun _ h => by cases h), (fun h => by cases h)⟩
    have e := crs_eq S ar lf un (S.sure + M) (by omega)
    rw [← e]
    exact (((hB6.set 1 _).set 3 _).set 4 _).set 7 _
  · by_cases hbig : (a : Int) < k
    · have HE : Hid (M = a) := by show _ = _; omega
      go_upto_region 4 with fail
      have hB' : Blk w.drew r (rcs S ar lf un) 29 := hB
      have kd := chg_drew r w
      refine region_L 14 (S := fun w' => w' = w.drew) (by kernel_rfl) rfl (fun hHeld => ?_)
      clear c1
      generalize w.drew = V at *
      have c0 := (octR hB').c0
      have c1 := (octR hB').c1
      have f0 := hB'.frozen 0
      refine takeL (i := 0) [12, 13, 14] (some 18) (by rfl) rfl rfl (by kernel_rfl) (by kernel_rfl) (by kernel_rfl) (by kernel_rfl) (fun _ _ _ h => h) (by rfl) (fun w hSw => by (try dsimp only at hSw); go_simp; try rfl) hHeld ?_
      go_frame
      refine takeL (i := 1) [2, 3, 4, 11, 14] (some 19) (by rfl) rfl rfl (by kernel_rfl) (by kernel_rfl) (by kernel_rfl) (by kernel_rfl) (fun _ _ _ h => h) (by rfl) (fun w hSw => by (try dsimp only at hSw); go_simp; try rfl) hHeld ?_
      go_frame
      refine takeL (i := 2) [3, 4, 11, 14] (some 20) (by rfl) rfl rfl (by kernel_rfl) (by kernel_rfl) (by kernel_rfl) (by kernel_rfl) (fun _ _ _ h => h) (by rfl) (fun w hSw => by (try dsimp only at hSw); go_simp; try rfl) hHeld ?_
      go_frame
      refine takeL (i := 3) [4, 11, 14] (some 21) (by rfl) rfl rfl (by kernel_rfl) (by kernel_rfl) (by kernel_rfl) (by kernel_rfl) (fun _ _ _ h => h) (by rfl) (fun w hSw => by (try dsimp only at hSw); go_simp; try rfl) hHeld ?_
      go_frame
      refine takeL (i := 4) [11, 14] (some 22) (by rfl) rfl rfl (by kernel_rfl) (by kernel_rfl) (by kernel_rfl) (by kernel_rfl) (fun _ _ _ h => h) (by rfl) (fun w hSw => by (try dsimp only at hSw); (subst hSw; go_simp; try rfl)) hHeld ?_
      go_frame
      refine takeL (i := 5) [6, 7, 8, 10, 11, 14] (some 23) (by rfl) rfl rfl (by kernel_rfl) (by kernel_rfl) (by kernel_rfl) (by kernel_rfl) (fun _ _ _ h => h) (by rfl) (fun w hSw => by (try dsimp only at hSw); go_simp; try rfl) hHeld ?_
      go_frame
      refine takeL (i := 6) [7, 8, 10, 11, 14] (some 24) (by rfl) rfl rfl (by kernel_rfl) (by kernel_rfl) (by kernel_rfl) (by kernel_rfl) (fun _ _ _ h => h) (by rfl) (fun w hSw => by (try dsimp only at hSw); go_simp; try rfl) hHeld ?_
      go_frame
      refine takeL (i := 7) [8, 10, 11, 14] (some 25) (by rfl) rfl rfl (by kernel_rfl) (by kernel_rfl) (by kernel_rfl) (by kernel_rfl) (fun _ _ _ h => h) (by rfl) (fun w hSw => by (try dsimp only at hSw); go_simp; try rfl) hHeld ?_
      go_frame
      refine takeL (i := 8) [10, 11, 14] (some 26) (by rfl) rfl rfl (by kernel_rfl) (by kernel_rfl) (by kernel_rfl) (by kernel_rfl) (fun _ _ _ h => h) (by rfl) (fun w hSw => by (try dsimp only at hSw); (subst hSw; go_simp; try rfl)) hHeld ?_
      go_frame
      refine takeL (i := 9) [10, 11, 14] (some 27) (by rfl) rfl rfl (by kernel_rfl) (by kernel_rfl) (by kernel_rfl) (by kernel_rfl) (fun _ _ _ h => h) (by rfl) (fun w hSw => by (try dsimp only at hSw); go_simp; try rfl) hHeld ?_
      go_frame
      refine takeL (i := 10) [11, 14] (some 28) (by rfl) rfl rfl (by kernel_rfl) (by kernel_rfl) (by kernel_rfl) (by kernel_rfl) (fun _ _ _ h => h) (by rfl) (fun w hSw => by (try dsimp only at hSw); exact ss_run (l := S.l.drop S.sure) (j := M) rfl rfl rfl (by have := HE.out; omega) HML.out) hHeld ?_
      go_frame
      refine takeL (i := 11) [14] (some 29) (by rfl) rfl rfl (by kernel_rfl) (by kernel_rfl) (by kernel_rfl) (by kernel_rfl) (fun _ _ _ h => h) (by rfl) (fun w hSw => by (try dsimp only at hSw); (refine (?_ : _ = Result.ok (Next.value (.string (strB (S.l.take (S.sure + M))))) _); go_simp; rw [if_neg (by rw [strB_len, strB_len, List.length_take, List.length_take, List.length_drop]; omega), strB_app, ← List.take_add])) hHeld ?_
      go_frame
      refine takeL (i := 12) [13, 14] (some 30) (by rfl) rfl rfl (by kernel_rfl) (by kernel_rfl) (by kernel_rfl) (by kernel_rfl) (fun _ _ _ h => h) (by rfl) (fun w hSw => by (try dsimp only at hSw); go_simp; try rfl) hHeld ?_
      go_frame
      refine takeL (i := 13) [14] (some 31) (by rfl) rfl rfl (by kernel_rfl) (by kernel_rfl) (by kernel_rfl) (by kernel_rfl) (fun _ _ _ h => h) (by rfl) (fun w hSw => by (try dsimp only at hSw); go_simp; try rfl) hHeld ?_
      go_frame
      refine anyL_ready (rs := [14]) (by kernel_rfl) (by simp) (AllL.last rfl (by kernel_rfl) (fun K hK => ?_))
      go_simp
      refine hK.out _ _ ?_
      clear hK K
      refine anyL_done (by kernel_rfl) ?_
      have hB6 := hB'.set 0 (.string (strB (S.l.take (S.sure + M))))
      have k6 := chg_set V r 0 (.string (strB (S.l.take (S.sure + M))))
      clear c0 c1 f0 hHeld
      generalize V.setCell ⟨r, 0, none⟩ (.string (strB (S.l.take (S.sure + M)))) = V6 at *
      have d1 := hB6.at (i := 1) rfl
      have d3 := hB6.at (i := 3) rfl
      have d4 := hB6.at (i := 4) rfl
      have d7 := hB6.at (i := 7) rfl
      have f1 := hB6.frozen 1
      have f3 := hB6.frozen 3
      have f4 := hB6.frozen 4
      have f7 := hB6.frozen 7
      go_wp2_with fail
      go_end0
      refine ⟨rfl, ?_, (((((kd.trans k6).trans (chg_set _ _ _ _)).trans (chg_set _ _ _ _)).trans (chg_set _ _ _ _)).trans (chg_set _ _ _ _))⟩
      rw [HS.out]
      refine ⟨false, lf, un, ?_, (fun _ => rfl), (fun _ h => by cases h), (fun h => by cases h)⟩
      have e := crs_eq S ar lf un (S.sure + M) (by omega)
      rw [← e]
      exact (((hB6.set 1 _).set 3 _).set 4 _).set 7 _
    · have hMk : k = ((M : Nat) : Int) := by omega
      subst hMk
      go_upto_region 4 with fail
      have hB' : Blk w.drew r (rcs S ar lf un) 29 := hB
      have kd := chg_drew r w
      refine region_L 14 (S := fun w' => w' = w.drew) (by kernel_rfl) rfl (fun hHeld => ?_)
      clear c1
      generalize w.drew = V at *
      have c0 := (octR hB').c0
      have c1 := (octR hB').c1
      have f0 := hB'.frozen 0
      refine takeL (i := 0) [12, 13, 14] (some 18) (by rfl) rfl rfl (by kernel_rfl) (by kernel_rfl) (by kernel_rfl) (by kernel_rfl) (fun _ _ _ h => h) (by rfl) (fun w hSw => by (try dsimp only at hSw); go_simp; try rfl) hHeld ?_
      go_frame
      refine takeL (i := 1) [2, 3, 4, 11, 14] (some 19) (by rfl) rfl rfl (by kernel_rfl) (by kernel_rfl) (by kernel_rfl) (by kernel_rfl) (fun _ _ _ h => h) (by rfl) (fun w hSw => by (try dsimp only at hSw); go_simp; try rfl) hHeld ?_
      go_frame
      refine takeL (i := 2) [3, 4, 11, 14] (some 20) (by rfl) rfl rfl (by kernel_rfl) (by kernel_rfl) (by kernel_rfl) (by kernel_rfl) (fun _ _ _ h => h) (by rfl) (fun w hSw => by (try dsimp only at hSw); go_simp; try rfl) hHeld ?_
      go_frame
      refine takeL (i := 3) [4, 11, 14] (some 21) (by rfl) rfl rfl (by kernel_rfl) (by kernel_rfl) (by kernel_rfl) (by kernel_rfl) (fun _ _ _ h => h) (by rfl) (fun w hSw => by (try dsimp only at hSw); go_simp; try rfl) hHeld ?_
      go_frame
      refine takeL (i := 4) [11, 14] (some 22) (by rfl) rfl rfl (by kernel_rfl) (by kernel_rfl) (by kernel_rfl) (by kernel_rfl) (fun _ _ _ h => h) (by rfl) (fun w hSw => by (try dsimp only at hSw); (subst hSw; go_simp; try rfl)) hHeld ?_
      go_frame
      refine takeL (i := 5) [6, 7, 8, 10, 11, 14] (some 23) (by rfl) rfl rfl (by kernel_rfl) (by kernel_rfl) (by kernel_rfl) (by kernel_rfl) (fun _ _ _ h => h) (by rfl) (fun w hSw => by (try dsimp only at hSw); go_simp; try rfl) hHeld ?_
      go_frame
      refine takeL (i := 6) [7, 8, 10, 11, 14] (some 24) (by rfl) rfl rfl (by kernel_rfl) (by kernel_rfl) (by kernel_rfl) (by kernel_rfl) (fun _ _ _ h => h) (by rfl) (fun w hSw => by (try dsimp only at hSw); go_simp; try rfl) hHeld ?_
      go_frame
      refine takeL (i := 7) [8, 10, 11, 14] (some 25) (by rfl) rfl rfl (by kernel_rfl) (by kernel_rfl) (by kernel_rfl) (by kernel_rfl) (fun _ _ _ h => h) (by rfl) (fun w hSw => by (try dsimp only at hSw); go_simp; try rfl) hHeld ?_
      go_frame
      refine takeL (i := 8) [10, 11, 14] (some 26) (by rfl) rfl rfl (by kernel_rfl) (by kernel_rfl) (by kernel_rfl) (by kernel_rfl) (fun _ _ _ h => h) (by rfl) (fun w hSw => by (try dsimp only at hSw); (subst hSw; go_simp; try rfl)) hHeld ?_
      go_frame
      refine takeL (i := 9) [10, 11, 14] (some 27) (by rfl) rfl rfl (by kernel_rfl) (by kernel_rfl) (by kernel_rfl) (by kernel_rfl) (fun _ _ _ h => h) (by rfl) (fun w hSw => by (try dsimp only at hSw); go_simp; try rfl) hHeld ?_
      go_frame
      refine takeL (i := 10) [11, 14] (some 28) (by rfl) rfl rfl (by kernel_rfl) (by kernel_rfl) (by kernel_rfl) (by kernel_rfl) (fun _ _ _ h => h) (by rfl) (fun w hSw => by (try dsimp only at hSw); exact ss_run (l := S.l.drop S.sure) (j := M) rfl rfl rfl rfl HML.out) hHeld ?_
      go_frame
      refine takeL (i := 11) [14] (some 29) (by rfl) rfl rfl (by kernel_rfl) (by kernel_rfl) (by kernel_rfl) (by kernel_rfl) (fun _ _ _ h => h) (by rfl) (fun w hSw => by (try dsimp only at hSw); (refine (?_ : _ = Result.ok (Next.value (.string (strB (S.l.take (S.sure + M))))) _); go_simp; rw [if_neg (by rw [strB_len, strB_len, List.length_take, List.length_take, List.length_drop]; omega), strB_app, ← List.take_add])) hHeld ?_
      go_frame
      refine takeL (i := 12) [13, 14] (some 30) (by rfl) rfl rfl (by kernel_rfl) (by kernel_rfl) (by kernel_rfl) (by kernel_rfl) (fun _ _ _ h => h) (by rfl) (fun w hSw => by (try dsimp only at hSw); go_simp; try rfl) hHeld ?_
      go_frame
      refine takeL (i := 13) [14] (some 31) (by rfl) rfl rfl (by kernel_rfl) (by kernel_rfl) (by kernel_rfl) (by kernel_rfl) (fun _ _ _ h => h) (by rfl) (fun w hSw => by (try dsimp only at hSw); go_simp; try rfl) hHeld ?_
      go_frame
      refine anyL_ready (rs := [14]) (by kernel_rfl) (by simp) (AllL.last rfl (by kernel_rfl) (fun K hK => ?_))
      go_simp
      refine hK.out _ _ ?_
      clear hK K
      refine anyL_done (by kernel_rfl) ?_
      have hB6 := hB'.set 0 (.string (strB (S.l.take (S.sure + M))))
      have k6 := chg_set V r 0 (.string (strB (S.l.take (S.sure + M))))
      clear c0 c1 f0 hHeld
      generalize V.setCell ⟨r, 0, none⟩ (.string (strB (S.l.take (S.sure + M)))) = V6 at *
      have d1 := hB6.at (i := 1) rfl
      have d3 := hB6.at (i := 3) rfl
      have d4 := hB6.at (i := 4) rfl
      have d7 := hB6.at (i := 7) rfl
      have f1 := hB6.frozen 1
      have f3 := hB6.frozen 3
      have f4 := hB6.frozen 4
      have f7 := hB6.frozen 7
      go_wp2_with fail
      go_end0
      refine ⟨rfl, ?_, (((((kd.trans k6).trans (chg_set _ _ _ _)).trans (chg_set _ _ _ _)).trans (chg_set _ _ _ _)).trans (chg_set _ _ _ _))⟩
      rw [HS.out]
      refine ⟨false, lf, un, ?_, (fun _ => rfl), (fun _ h => by cases h), (fun h => by cases h)⟩
      have e := crs_eq S ar lf un (S.sure + M) (by omega)
      rw [← e]
      exact (((hB6.set 1 _).set 3 _).set 4 _).set 7 _
end Go.Proofs.Ytalbiggmmmkclaa
