/-
  The document's tape (estuaryref06): its cells; step.
  The document's tape: Append, Sync, Replace, Cut, Crash; estuarynum.Num of any error.
  The document's tape: Crash; estuarynum.Over.
  Are slices each its own? What estuarynum.Apart does to them, step by step.
-/
import Derived.Test.YtalbiggmmmkclaaPk08
import Derived.Test.YtalbiggmmmkclaaPk06
namespace Go.Proofs.Ytalbiggmmmkclaa
open Go.RowKit
set_option linter.unusedVariables false

def rcs (S : TS) (ar : Bool) (lf un : Int) : Array Value := #[.string (strB (S.l.take S.sure)), .string (strB (S.l.drop S.sure)), .int .i64 ((S.steps : Nat) : Int), .bool ar, .bool S.rs, .int .i64 lf, .int .i64 un, .bool S.down]
/-- The document's tape at block r holds what the tape S holds. -/
def Rf (W : World) (r : Nat) (S : TS) : Prop := ∃ ar lf un, Blk W r (rcs S ar lf un) 29 ∧ (S.down = false → ar = S.os) ∧ (S.down = false → S.os = true → lf = ((S.oa : Nat) : Int)) ∧ (S.rs = true → un = ((S.ra : Nat) : Int))
theorem Rf.keep {W W' : World} {r : Nat} {S : TS} (h : Rf W r S) (hb : Below W.heap.size W W') : Rf W' r S := by
  obtain ⟨ar, lf, un, h1, h2⟩ := h
  exact ⟨ar, lf, un, h1.keep hb, h2⟩
theorem Rf.lt {W : World} {r : Nat} {S : TS} (h : Rf W r S) : r < W.heap.size := by
  obtain ⟨ar, lf, un, h1, h2⟩ := h
  exact h1.lt
theorem Rf.at {W W' : World} {r : Nat} {S : TS} (h : Rf W r S) (he : W'.heap[r]? = W.heap[r]?) : Rf W' r S := by
  obtain ⟨ar, lf, un, h1, h2⟩ := h
  exact ⟨ar, lf, un, by unfold Blk; rw [he]; exact h1, h2⟩
structure OctR (W : World) (r : Nat) (S : TS) (ar : Bool) (lf un : Int) : Prop where
  c0 : W.cell? ⟨r, 0, none⟩ = some (.string (strB (S.l.take S.sure)))
  c1 : W.cell? ⟨r, 1, none⟩ = some (.string (strB (S.l.drop S.sure)))
  c2 : W.cell? ⟨r, 2, none⟩ = some (.int .i64 ((S.steps : Nat) : Int))
  c3 : W.cell? ⟨r, 3, none⟩ = some (.bool ar)
  c4 : W.cell? ⟨r, 4, none⟩ = some (.bool S.rs)
  c5 : W.cell? ⟨r, 5, none⟩ = some (.int .i64 lf)
  c6 : W.cell? ⟨r, 6, none⟩ = some (.int .i64 un)
  c7 : W.cell? ⟨r, 7, none⟩ = some (.bool S.down)
theorem octR {W : World} {r : Nat} {S : TS} {ar : Bool} {lf un : Int} (h : Blk W r (rcs S ar lf un) 29) : OctR W r S ar lf un := ⟨h.at rfl, h.at rfl, h.at rfl, h.at rfl, h.at rfl, h.at rfl, h.at rfl, h.at rfl⟩
set_option maxHeartbeats 1000000 in
theorem rstep_any (r : Nat) (S : TS) (w : World) (h : Rf w r S) (hst : S.steps < 4611686018427387904) (hoa : S.oa ≤ 9223372036854775807) (hra : S.ra ≤ 9223372036854775807) :
    Calls Try.prog 53 #[tptr r] w fun e w' => e = .returned (.int .i64 ((stN S : Nat) : Int)) ∧ Rf w' r (stS S) ∧ Chg r w w' := by
  obtain ⟨l, sure, steps, os, oa, rs, ra, down⟩ := S
  obtain ⟨ar, lf, un, hB, har, hlf, hun⟩ := h
  dsimp only at hst hoa hra har hlf hun
  cases down with
  | true =>
    have c7 := (octR hB).c7
    dsimp only at c7
    go_enter Try.func53, Try.ntmps53
    go_wp2_with fail
    go_ret
    exact ⟨rfl, ⟨ar, lf, un, hB, har, hlf, hun⟩, Chg.refl _ _⟩
  | false =>
    obtain rfl := har rfl
    have c2 := (octR hB).c2
    have c3 := (octR hB).c3
    have c4 := (octR hB).c4
    have c5 := (octR hB).c5
    have c6 := (octR hB).c6
    have c7 := (octR hB).c7
    dsimp only at c2 c3 c4 c5 c6 c7
    have f2 := hB.frozen 2
    have f4 := hB.frozen 4
    have f5 := hB.frozen 5
    have f6 := hB.frozen 6
    have f7 := hB.frozen 7
    cases ar with
    | false =>
      cases rs with
      | false =>
        go_enter Try.func53, Try.ntmps53
        go_wp2_with fail
        go_ret
        exact ⟨rfl, ⟨false, lf, un, (hB.set 2 (.int .i64 ((steps + 1 : Nat) : Int))), (fun _ => rfl), (fun _ h => by cases h), (fun h => by cases h)⟩, chg_set _ _ _ _⟩
      | true =>
        obtain rfl := hun rfl
        cases ra with
        | zero =>
          have c6' : w.cell? ⟨r, 6, none⟩ = some (.int .i64 0) := c6
          clear c6
          go_enter Try.func53, Try.ntmps53
          go_wp2_with fail
          go_ret
          exact ⟨rfl, ⟨false, lf, ((0 : Nat) : Int), ((hB.set 2 (.int .i64 ((steps + 1 : Nat) : Int))).set 4 (.bool false)), (fun _ => rfl), (fun _ h => by cases h), (fun h => by cases h)⟩, (chg_set _ _ _ _).trans (chg_set _ _ _ _)⟩
        | succ n =>
          have h0 : (((n + 1 : Nat) : Int) == 0) = false := by simp; omega
          have h1 : ((n + 1 : Nat) : Int) - 1 = ((n : Nat) : Int) := by omega
          generalize ((n + 1 : Nat) : Int) = N at *
          have hN : N = n + 1 := by omega
          go_enter Try.func53, Try.ntmps53
          go_wp2_with fail
          go_ret
          exact ⟨rfl, ⟨false, lf, ((n : Nat) : Int), ((hB.set 2 (.int .i64 ((steps + 1 : Nat) : Int))).set 6 (.int .i64 ((n : Nat) : Int))), (fun _ => rfl), (fun _ h => by cases h), (fun _ => rfl)⟩, (chg_set _ _ _ _).trans (chg_set _ _ _ _)⟩
    | true =>
      obtain rfl := hlf rfl rfl
      cases oa with
      | zero =>
        have c5' : w.cell? ⟨r, 5, none⟩ = some (.int .i64 0) := c5
        clear c5
        go_enter Try.func53, Try.ntmps53
        go_wp2_with fail
        go_ret
        exact ⟨rfl, ⟨true, ((0 : Nat) : Int), un, hB.set 7 (.bool true), (fun h => by cases h), (fun h => by cases h), hun⟩, chg_set _ _ _ _⟩
      | succ m =>
        have g0 : (((m + 1 : Nat) : Int) == 0) = false := by simp; omega
        have g1 : ((m + 1 : Nat) : Int) - 1 = ((m : Nat) : Int) := by omega
        generalize hM' : ((m + 1 : Nat) : Int) = M at *
        have hM : M = m + 1 := by omega
        clear hM' hlf
        cases rs with
        | false =>
          go_enter Try.func53, Try.ntmps53
          go_wp2_with fail
          go_ret
          exact ⟨rfl, ⟨true, ((m : Nat) : Int), un, ((hB.set 5 (.int .i64 ((m : Nat) : Int))).set 2 (.int .i64 ((steps + 1 : Nat) : Int))), (fun _ => rfl), (fun _ _ => rfl), (fun h => by cases h)⟩, (chg_set _ _ _ _).trans (chg_set _ _ _ _)⟩
        | true =>
          obtain rfl := hun rfl
          cases ra with
          | zero =>
            have c6' : w.cell? ⟨r, 6, none⟩ = some (.int .i64 0) := c6
            clear c6
            go_enter Try.func53, Try.ntmps53
            go_wp2_with fail
            go_ret
            exact ⟨rfl, ⟨true, ((m : Nat) : Int), ((0 : Nat) : Int), (((hB.set 5 (.int .i64 ((m : Nat) : Int))).set 2 (.int .i64 ((steps + 1 : Nat) : Int))).set 4 (.bool false)), (fun _ => rfl), (fun _ _ => rfl), (fun h => by cases h)⟩, ((chg_set _ _ _ _).trans (chg_set _ _ _ _)).trans (chg_set _ _ _ _)⟩
          | succ n =>
            have h0 : (((n + 1 : Nat) : Int) == 0) = false := by simp; omega
            have h1 : ((n + 1 : Nat) : Int) - 1 = ((n : Nat) : Int) := by omega
            generalize ((n + 1 : Nat) : Int) = N at *
            have hN : N = n + 1 := by omega
            go_enter Try.func53, Try.ntmps53
            go_wp2_with fail
            go_ret
            exact ⟨rfl, ⟨true, ((m : Nat) : Int), ((n : Nat) : Int), (((hB.set 5 (.int .i64 ((m : Nat) : Int))).set 2 (.int .i64 ((steps + 1 : Nat) : Int))).set 6 (.int .i64 ((n : Nat) : Int))), (fun _ => rfl), (fun _ _ => rfl), (fun _ => rfl)⟩, ((chg_set _ _ _ _).trans (chg_set _ _ _ _)).trans (chg_set _ _ _ _)⟩
end Go.Proofs.Ytalbiggmmmkclaa
namespace Go.Proofs.Ytalbiggmmmkclaa
open Go.RowKit
set_option linter.unusedVariables false

theorem chg_drewN (b : Nat) (w : World) (n : Nat) : Chg b w (w.drewN n) := ⟨rfl, rfl, rfl, rfl, fun _ _ => rfl⟩
theorem chg_drew (b : Nat) (w : World) : Chg b w w.drew := ⟨rfl, rfl, rfl, rfl, fun _ _ => rfl⟩
theorem strB_nil : (⟨#[]⟩ : ByteArray) = strB [] := rfl
theorem rcs_eq (S S' : TS) (ar : Bool) (lf un : Int) (x y : List Nat) (hx : S'.l.take S'.sure = x) (hy : S'.l.drop S'.sure = y) (h2 : S'.steps = S.steps) (h4 : S'.rs = S.rs) (h7 : S'.down = S.down) :
    ((rcs S ar lf un).setIfInBounds 0 (.string (strB x))).setIfInBounds 1 (.string (strB y)) = rcs S' ar lf un := by
  unfold rcs; rw [hx, hy, h2, h4, h7]; rfl
theorem rcs_eq1 (S S' : TS) (ar : Bool) (lf un : Int) (y : List Nat) (hx : S'.l.take S'.sure = S.l.take S.sure) (hy : S'.l.drop S'.sure = y) (h2 : S'.steps = S.steps) (h4 : S'.rs = S.rs) (h7 : S'.down = S.down) :
    (rcs S ar lf un).setIfInBounds 1 (.string (strB y)) = rcs S' ar lf un := by
  unfold rcs; rw [hx, hy, h2, h4, h7]; rfl
theorem num_any (n : Nat) (w : World) : Calls Try.prog 15 #[errV n] w fun e w' => e = .returned (.int .i64 ((n : Nat) : Int)) ∧ w' = w := by
  by_cases h : n = 0
  · subst h; exact num_nil w
  · rw [errV_no h]; exact num_err _ (by omega) w
set_option maxHeartbeats 1000000 in
theorem rappend_any (r : Nat) (S : TS) (m : List Nat) (w : World) (h : Rf w r S) (hsu : S.sure ≤ S.l.length) (hmx : S.l.length ≤ 1048576) (hm : m.length ≤ 1000000) (hst : S.steps < 4611686018427387904) (hoa : S.oa ≤ 9223372036854775807) (hra : S.ra ≤ 9223372036854775807) :
    Calls Try.prog 43 #[tptr r, .string (strB m)] w fun e w' => e = .returned (.int .i64 ((apN S m.length : Nat) : Int)) ∧ Rf w' r (apS S m) ∧ Chg r w w' := by
  have hl3 := stS_l S
  obtain ⟨ar, lf, un, hB, har, hlf, hun⟩ := id h
  have c0 := (octR hB).c0
  have c1 := (octR hB).c1
  have z0 : (strB (S.l.take S.sure)).size = S.sure := by rw [strB_len, List.length_take]; omega
  have z1 : (strB (S.l.drop S.sure)).size = S.l.length - S.sure := by rw [strB_len, List.length_drop]
  have zm : (strB m).size = m.length := strB_len m
  have HN : Hid (apN S m.length = if S.l.length + m.length ≤ 1048576 then stN S else 7) := rfl
  have HS : Hid (apS S m = if S.l.length + m.length ≤ 1048576 then (if stN S = 0 then { stS S with l := S.l ++ m } else stS S) else S) := rfl
  have HTk : Hid ((S.l ++ m).take S.sure = S.l.take S.sure) := List.take_append_of_le_length hsu
  have HDr : Hid ((S.l ++ m).drop S.sure = S.l.drop S.sure ++ m) := List.drop_append_of_le_length hsu
  clear hB har hlf hun
  go_enter Try.func43, Try.ntmps43
  go_upto_region 1 with fail
  generalize hn : S.l.length = n at *
  generalize hs : S.sure = s at *
  generalize hk : m.length = k at *
  obtain ⟨a, ha⟩ : ∃ a, n - s = a := ⟨_, rfl⟩
  rw [ha] at z1
  go_quiet (fail)
  have b1 : Below w.heap.size w (w.drewN nq) := below_drewN (Below.refl _ _) nq
  have h1 := h.keep b1
  have bq := chg_drewN r w nq
  clear c0 c1 z0 z1
  generalize w.drewN nq = V at *
  by_cases hfit : n + k ≤ 1048576
  · have hfi : ¬ (1048576 : Int) < (s : Int) + (a : Int) + (k : Int) := by omega
    go_upto_region 4 with (go_at_call 53; refine (rstep_any r S _ h1 hst hoa hra).mono ?_; rintro e V2 ⟨rfl, h2, k2⟩)
    by_cases h0 : stN S = 0
    · have HN2 : Hid (apN S k = 0) := HN.out.trans ((if_pos hfit).trans h0)
      have HS2 : Hid (apS S m = { stS S with l := S.l ++ m }) := HS.out.trans ((if_pos hfit).trans (if_pos h0))
      rw [h0]
      obtain ⟨ar, lf, un, hB, har, hlf, hun⟩ := h2
      have c1 := (octR hB).c1
      rw [hl3.1, hl3.2] at c1
      have f1 := hB.frozen 1
      have hsz : ¬ 9223372036854775807 < (strB (S.l.drop s)).size + (strB m).size := by rw [strB_len, strB_len, List.length_drop]; omega
      rw [zm] at hsz
      clear HN HS h0 hl3
      go_wp2_with fail
      go_ret
      refine ⟨by (try rw [hk]); rw [HN2.out]; rfl, ?_, bq.trans (k2.trans (chg_set _ _ _ _))⟩
      rw [HS2.out, strB_app]
      have hl3 := stS_l S
      exact ⟨ar, lf, un, by rw [← rcs_eq1 (stS S) { stS S with l := S.l ++ m } ar lf un (S.l.drop s ++ m) (by show (S.l ++ m).take (stS S).sure = _; rw [hl3.1, hl3.2, hs, HTk.out]) (by show (S.l ++ m).drop (stS S).sure = _; rw [hl3.2, hs, HDr.out]) rfl rfl rfl]; exact hB.set 1 _, har, hlf, hun⟩
    · have HN2 : Hid (apN S k = stN S) := HN.out.trans (if_pos hfit)
      have HS2 : Hid (apS S m = stS S) := HS.out.trans ((if_pos hfit).trans (if_neg h0))
      have h0' : (((stN S : Nat) : Int) == 0) = false := by simp [h0]
      generalize hX : ((stN S : Nat) : Int) = X at *
      go_wp2_with fail
      go_ret
      exact ⟨by (try rw [hk]); rw [HN2.out, hX]; rfl, by rw [HS2.out]; exact h2, bq.trans k2⟩
  · have hfi : (1048576 : Int) < (s : Int) + (a : Int) + (k : Int) := by omega
    have HN2 : Hid (apN S k = 7) := HN.out.trans (if_neg hfit)
    have HS2 : Hid (apS S m = S) := HS.out.trans (if_neg hfit)
    go_wp2_with fail
    go_ret
    exact ⟨by (try rw [hk]); rw [HN2.out]; rfl, by rw [HS2.out]; exact h1, bq⟩
set_option maxHeartbeats 1000000 in
theorem rsync_any (r : Nat) (S : TS) (w : World) (h : Rf w r S) (hsu : S.sure ≤ S.l.length) (hmx : S.l.length ≤ 1048576) (hst : S.steps < 4611686018427387904) (hoa : S.oa ≤ 9223372036854775807) (hra : S.ra ≤ 9223372036854775807) :
    Calls Try.prog 44 #[tptr r] w fun e w' => e = .returned (.int .i64 ((stN S : Nat) : Int)) ∧ Rf w' r (syS S) ∧ Chg r w w' := by
  have hl3 := stS_l S
  go_enter Try.func44, Try.ntmps44
  go_upto_region 2 with (go_at_call 53; refine (rstep_any r S _ h hst hoa hra).mono ?_; rintro e V2 ⟨rfl, h2, k2⟩)
  by_cases h0 : stN S = 0
  · have HS2 : Hid (syS S = { stS S with sure := S.l.length }) := if_pos h0
    have HN2 : Hid (stN S = 0) := h0
    rw [h0]
    clear h0
    obtain ⟨ar, lf, un, hB, har, hlf, hun⟩ := h2
    go_upto_region 3 with fail
    have hB' : Blk V2.drew r (rcs (stS S) ar lf un) 29 := hB
    have kd := chg_drew r V2
    refine region_L 12 (S := fun w' => w' = V2.drew) (by kernel_rfl) rfl (fun hHeld => ?_)
    generalize V2.drew = V at *
    have c0 := (octR hB').c0
    have c1 := (octR hB').c1
    rw [hl3.1, hl3.2] at c0 c1
    have f0 := hB'.frozen 0
    have f1 := hB'.frozen 1
    refine takeL (i := 0) [10, 11, 12] (some 8) (by rfl) rfl rfl (by kernel_rfl) (by kernel_rfl) (by kernel_rfl) (by kernel_rfl) (fun _ _ _ h => h) (by rfl) (fun w hSw => by (try dsimp only at hSw); go_simp; try rfl) hHeld ?_
    go_frame
    refine takeL (i := 1) [2, 3, 4, 9, 12] (some 9) (by rfl) rfl rfl (by kernel_rfl) (by kernel_rfl) (by kernel_rfl) (by kernel_rfl) (fun _ _ _ h => h) (by rfl) (fun w hSw => by (try dsimp only at hSw); go_simp; try rfl) hHeld ?_
    go_frame
    refine takeL (i := 2) [3, 4, 9, 12] (some 10) (by rfl) rfl rfl (by kernel_rfl) (by kernel_rfl) (by kernel_rfl) (by kernel_rfl) (fun _ _ _ h => h) (by rfl) (fun w hSw => by (try dsimp only at hSw); go_simp; try rfl) hHeld ?_
    go_frame
    refine takeL (i := 3) [4, 9, 12] (some 11) (by rfl) rfl rfl (by kernel_rfl) (by kernel_rfl) (by kernel_rfl) (by kernel_rfl) (fun _ _ _ h => h) (by rfl) (fun w hSw => by (try dsimp only at hSw); go_simp; try rfl) hHeld ?_
    go_frame
    refine takeL (i := 4) [9, 12] (some 12) (by rfl) rfl rfl (by kernel_rfl) (by kernel_rfl) (by kernel_rfl) (by kernel_rfl) (fun _ _ _ h => h) (by rfl) (fun w hSw => by (try dsimp only at hSw); (subst hSw; go_simp; try rfl)) hHeld ?_
    go_frame
    refine takeL (i := 5) [6, 7, 8, 9, 12] (some 13) (by rfl) rfl rfl (by kernel_rfl) (by kernel_rfl) (by kernel_rfl) (by kernel_rfl) (fun _ _ _ h => h) (by rfl) (fun w hSw => by (try dsimp only at hSw); go_simp; try rfl) hHeld ?_
    go_frame
    refine takeL (i := 6) [7, 8, 9, 12] (some 14) (by rfl) rfl rfl (by kernel_rfl) (by kernel_rfl) (by kernel_rfl) (by kernel_rfl) (fun _ _ _ h => h) (by rfl) (fun w hSw => by (try dsimp only at hSw); go_simp; try rfl) hHeld ?_
    go_frame
    refine takeL (i := 7) [8, 9, 12] (some 15) (by rfl) rfl rfl (by kernel_rfl) (by kernel_rfl) (by kernel_rfl) (by kernel_rfl) (fun _ _ _ h => h) (by rfl) (fun w hSw => by (try dsimp only at hSw); go_simp; try rfl) hHeld ?_
    go_frame
    refine takeL (i := 8) [9, 12] (some 16) (by rfl) rfl rfl (by kernel_rfl) (by kernel_rfl) (by kernel_rfl) (by kernel_rfl) (fun _ _ _ h => h) (by rfl) (fun w hSw => by (try dsimp only at hSw); (subst hSw; go_simp; try rfl)) hHeld ?_
    go_frame
    refine takeL (i := 9) [12] (some 17) (by rfl) rfl rfl (by kernel_rfl) (by kernel_rfl) (by kernel_rfl) (by kernel_rfl) (fun _ _ _ h => h) (by rfl) (fun w hSw => by (try dsimp only at hSw); (refine (?_ : _ = Result.ok (Next.value (.string (strB S.l))) _); go_simp; rw [if_neg (by rw [strB_len, strB_len, List.length_take, List.length_drop]; omega), strB_app, List.take_append_drop])) hHeld ?_
    go_frame
    refine takeL (i := 10) [11, 12] (some 18) (by rfl) rfl rfl (by kernel_rfl) (by kernel_rfl) (by kernel_rfl) (by kernel_rfl) (fun _ _ _ h => h) (by rfl) (fun w hSw => by (try dsimp only at hSw); go_simp; try rfl) hHeld ?_
    go_frame
    refine takeL (i := 11) [12] (some 19) (by rfl) rfl rfl (by kernel_rfl) (by kernel_rfl) (by kernel_rfl) (by kernel_rfl) (fun _ _ _ h => h) (by rfl) (fun w hSw => by (try dsimp only at hSw); go_simp; try rfl) hHeld ?_
    go_frame
    refine anyL_ready (rs := [12]) (by kernel_rfl) (by simp) (AllL.last rfl (by kernel_rfl) (fun K hK => ?_))
    go_simp
    refine hK.out _ _ ?_
    clear hK K
    refine anyL_done (by kernel_rfl) ?_
    have hB6 := hB'.set 0 (.string (strB S.l))
    have k6 := chg_set V r 0 (.string (strB S.l))
    clear c0 c1 f0 f1 hHeld
    generalize V.setCell ⟨r, 0, none⟩ (.string (strB S.l)) = V6 at *
    have d1 := hB6.at (i := 1) rfl
    have f1 := hB6.frozen 1
    go_wp2_with fail
    go_ret
    refine ⟨by rw [HN2.out]; rfl, ?_, ((k2.trans kd).trans k6).trans (chg_set _ _ _ _)⟩
    rw [HS2.out]
    exact ⟨ar, lf, un, by rw [← rcs_eq (stS S) { stS S with sure := S.l.length } ar lf un S.l [] (by show (stS S).l.take S.l.length = _; rw [hl3.1, List.take_length]) (by show (stS S).l.drop S.l.length = _; rw [hl3.1, List.drop_length]) rfl rfl rfl]; exact hB6.set 1 _, har, hlf, hun⟩
  · have HS2 : Hid (syS S = stS S) := if_neg h0
    have h0' : (((stN S : Nat) : Int) == 0) = false := by simp [h0]
    generalize hX : ((stN S : Nat) : Int) = X at *
    go_wp2_with fail
    go_ret
    exact ⟨by rw [hX]; rfl, by rw [HS2.out]; exact h2, k2⟩
set_option maxHeartbeats 1000000 in
theorem rreplace_any (r : Nat) (S : TS) (m : List Nat) (w : World) (h : Rf w r S) (hm : m.length ≤ 1000000) (hst : S.steps < 4611686018427387904) (hoa : S.oa ≤ 9223372036854775807) (hra : S.ra ≤ 9223372036854775807) :
    Calls Try.prog 39 #[tptr r, .string (strB m)] w fun e w' => e = .returned (.int .i64 ((rpN S m.length : Nat) : Int)) ∧ Rf w' r (rpS S m) ∧ Chg r w w' := by
  have hfi : ¬ (1048576 : Int) < (m.length : Int) := by omega
  have zm : (strB m).size = m.length := strB_len m
  have HN : Hid (rpN S m.length = stN S) := if_pos (by omega)
  have HS : Hid (rpS S m = if stN S = 0 then { stS S with l := m, sure := m.length } else stS S) := if_pos (by omega)
  go_enter Try.func39, Try.ntmps39
  go_upto_region 4 with (go_at_call 53; refine (rstep_any r S _ h hst hoa hra).mono ?_; rintro e V2 ⟨rfl, h2, k2⟩)
  by_cases h0 : stN S = 0
  · have HS2 : Hid (rpS S m = { stS S with l := m, sure := m.length }) := HS.out.trans (if_pos h0)
    have HN2 : Hid (rpN S m.length = 0) := HN.out.trans h0
    rw [h0]
    clear h0 HN HS
    obtain ⟨ar, lf, un, hB, har, hlf, hun⟩ := h2
    have c0 := (octR hB).c0
    have c1 := (octR hB).c1
    have f0 := hB.frozen 0
    have f1 := hB.frozen 1
    go_wp2_with fail
    go_ret
    refine ⟨by rw [HN2.out]; rfl, ?_, (k2.trans (chg_set _ _ _ _)).trans (chg_set _ _ _ _)⟩
    rw [HS2.out]
    exact ⟨ar, lf, un, by rw [← rcs_eq (stS S) { stS S with l := m, sure := m.length } ar lf un m [] (by show m.take m.length = _; rw [List.take_length]) (by show m.drop m.length = _; rw [List.drop_length]) rfl rfl rfl]; exact (hB.set 0 _).set 1 _, har, hlf, hun⟩
  · have HS2 : Hid (rpS S m = stS S) := HS.out.trans (if_neg h0)
    have h0' : (((stN S : Nat) : Int) == 0) = false := by simp [h0]
    generalize hX : ((stN S : Nat) : Int) = X at *
    go_wp2_with fail
    go_ret
    exact ⟨by rw [HN.out, hX]; rfl, by rw [HS2.out]; exact h2, k2⟩
set_option maxHeartbeats 1000000 in
theorem rcut_any (r : Nat) (S : TS) (w : World) (h : Rf w r S) (hsu : S.sure ≤ S.l.length) :
    Calls Try.prog 45 #[tptr r] w fun e w' => e = .returned (.tuple #[]) ∧ Rf w' r (ctS S) ∧ Chg r w w' := by
  obtain ⟨ar, lf, un, hB, har, hlf, hun⟩ := h
  have c1 := (octR hB).c1
  have c7 := (octR hB).c7
  have f1 := hB.frozen 1
  by_cases hd : S.down = true
  · have hS : Hid (ctS S = S) := if_pos hd
    rw [hd] at c7
    go_enter Try.func45, Try.ntmps45
    go_wp2_with fail
    go_end0
    exact ⟨rfl, by rw [hS.out]; exact ⟨ar, lf, un, hB, har, hlf, hun⟩, Chg.refl _ _⟩
  · have hS : Hid (ctS S = { S with l := S.l.take S.sure }) := if_neg hd
    have hd' : S.down = false := by simpa using hd
    rw [hd'] at c7
    go_enter Try.func45, Try.ntmps45
    go_wp2_with fail
    go_end0
    refine ⟨rfl, ?_, chg_set _ _ _ _⟩
    rw [hS.out]
    exact ⟨ar, lf, un, by rw [← rcs_eq1 S { S with l := S.l.take S.sure } ar lf un [] (by show (S.l.take S.sure).take S.sure = _; rw [List.take_take, Nat.min_self]) (by show (S.l.take S.sure).drop S.sure = _; rw [List.drop_eq_nil_of_le (by rw [List.length_take]; omega)]) rfl rfl rfl]; exact hB.set 1 _, har, hlf, hun⟩
end Go.Proofs.Ytalbiggmmmkclaa
namespace Go.Proofs.Ytalbiggmmmkclaa
open Go.RowKit
set_option linter.unusedVariables false

theorem crs_eq (S : TS) (ar : Bool) (lf un : Int) (j : Nat) (hj : j ≤ S.l.length) :
    (((((rcs S ar lf un).setIfInBounds 0 (.string (strB (S.l.take j)))).setIfInBounds 1 (.string ⟨#[]⟩)).setIfInBounds 3 (.bool false)).setIfInBounds 4 (.bool false)).setIfInBounds 7 (.bool false) = rcs ⟨S.l.take j, j, S.steps, false, 0, false, 0, false⟩ false lf un := by
  have h1 : (S.l.take j).take j = S.l.take j := by rw [List.take_take, Nat.min_self]
  have h2 : (S.l.take j).drop j = [] := List.drop_eq_nil_of_le (by rw [List.length_take]; omega)
  unfold rcs
  dsimp only
  rw [h1, h2]
  rfl
set_option maxHeartbeats 2000000 in
theorem rcrash_any (r : Nat) (S : TS) (k : Int) (w : World) (h : Rf w r S) (hsu : S.sure ≤ S.l.length) (hmx : S.l.length ≤ 1048576) (hk : -9223372036854775808 ≤ k ∧ k ≤ 9223372036854775807) :
    Calls Try.prog 26 #[tptr r, .int .i64 k] w fun e w' => e = .returned (.tuple #[]) ∧ Rf w' r (crS S k) ∧ Chg r w w' := by
  obtain ⟨ar, lf, un, hB, har, hlf, hun⟩ := h
  clear har hlf hun
  obtain ⟨M, hM⟩ : ∃ M, kp S k = M := ⟨_, rfl⟩
  have hM1 : M ≤ S.l.length - S.sure := by rw [← hM]; unfold kp; omega
  have HS : Hid (crS S k = ⟨S.l.take (S.sure + M), S.sure + M, S.steps, false, 0, false, 0, false⟩) := by show _ = _; unfold crS; rw [hM]
  have HML : Hid (M ≤ (S.l.drop S.sure).length) := by show _ ≤ _; rw [List.length_drop]; exact hM1
  have c1 := (octR hB).c1
  have z1 : (strB (S.l.drop S.sure)).size = S.l.length - S.sure := by rw [strB_len, List.length_drop]
  obtain ⟨a, ha⟩ : ∃ a, S.l.length - S.sure = a := ⟨_, rfl⟩
  rw [ha] at z1
  unfold kp at hM
  go_enter Try.func26, Try.ntmps26
  by_cases hneg : k < 0
  · have HE : Hid (M = 0) := by show _ = _; omega
    have h00 : ¬ (a : Int) < 0 := by omega
    go_upto_region 4 with fail
    have hB' : Blk w.drew r (rcs S ar lf un) 29 := hB
    have kd := chg_drew r w
    refine region_L 14 (S := fun w' => w' = w.drew) (by kernel_rfl) rfl (fun hHeld => ?_)
    clear c1
    generalize w.drew = V at *
    have c0 := (octR hB').c0
    have c1 := (octR hB').c1
    have f0 := hB'.frozen 0
    refine takeL (i := 0) [12, 13, 14] (some 18) (by rfl) rfl rfl (by kernel_rfl) (by kernel_rfl) (by kernel_rfl) (by kernel_rfl) (fun _ _ _ h => h) (by rfl) (fun w hSw => by (try dsimp only at hSw); go_simp; try rfl) hHeld ?_
    go_frame
    refine takeL (i := 1) [2, 3, 4, 11, 14] (some 19) (by rfl) rfl rfl (by kernel_rfl) (by kernel_rfl) (by kernel_rfl) (by kernel_rfl) (fun _ _ _ h => h) (by rfl) (fun w hSw => by (try dsimp only at hSw); go_simp; try rfl) hHeld ?_
    go_frame
    refine takeL (i := 2) [3, 4, 11, 14] (some 20) (by rfl) rfl rfl (by kernel_rfl) (by kernel_rfl) (by kernel_rfl) (by kernel_rfl) (fun _ _ _ h => h) (by rfl) (fun w hSw => by (try dsimp only at hSw); go_simp; try rfl) hHeld ?_
    go_frame
    refine takeL (i := 3) [4, 11, 14] (some 21) (by rfl) rfl rfl (by kernel_rfl) (by kernel_rfl) (by kernel_rfl) (by kernel_rfl) (fun _ _ _ h => h) (by rfl) (fun w hSw => by (try dsimp only at hSw); go_simp; try rfl) hHeld ?_
    go_frame
    refine takeL (i := 4) [11, 14] (some 22) (by rfl) rfl rfl (by kernel_rfl) (by kernel_rfl) (by kernel_rfl) (by kernel_rfl) (fun _ _ _ h => h) (by rfl) (fun w hSw => by (try dsimp only at hSw); (subst hSw; go_simp; try rfl)) hHeld ?_
    go_frame
    refine takeL (i := 5) [6, 7, 8, 10, 11, 14] (some 23) (by rfl) rfl rfl (by kernel_rfl) (by kernel_rfl) (by kernel_rfl) (by kernel_rfl) (fun _ _ _ h => h) (by rfl) (fun w hSw => by (try dsimp only at hSw); go_simp; try rfl) hHeld ?_
    go_frame
    refine takeL (i := 6) [7, 8, 10, 11, 14] (some 24) (by rfl) rfl rfl (by kernel_rfl) (by kernel_rfl) (by kernel_rfl) (by kernel_rfl) (fun _ _ _ h => h) (by rfl) (fun w hSw => by (try dsimp only at hSw); go_simp; try rfl) hHeld ?_
    go_frame
    refine takeL (i := 7) [8, 10, 11, 14] (some 25) (by rfl) rfl rfl (by kernel_rfl) (by kernel_rfl) (by kernel_rfl) (by kernel_rfl) (fun _ _ _ h => h) (by rfl) (fun w hSw => by (try dsimp only at hSw); go_simp; try rfl) hHeld ?_
    go_frame
    refine takeL (i := 8) [10, 11, 14] (some 26) (by rfl) rfl rfl (by kernel_rfl) (by kernel_rfl) (by kernel_rfl) (by kernel_rfl) (fun _ _ _ h => h) (by rfl) (fun w hSw => by (try dsimp only at hSw); (subst hSw; go_simp; try rfl)) hHeld ?_
    go_frame
    refine takeL (i := 9) [10, 11, 14] (some 27) (by rfl) rfl rfl (by kernel_rfl) (by kernel_rfl) (by kernel_rfl) (by kernel_rfl) (fun _ _ _ h => h) (by rfl) (fun w hSw => by (try dsimp only at hSw); go_simp; try rfl) hHeld ?_
    go_frame
    refine takeL (i := 10) [11, 14] (some 28) (by rfl) rfl rfl (by kernel_rfl) (by kernel_rfl) (by kernel_rfl) (by kernel_rfl) (fun _ _ _ h => h) (by rfl) (fun w hSw => by (try dsimp only at hSw); exact ss_run (l := S.l.drop S.sure) (j := M) rfl rfl rfl (by have := HE.out; omega) HML.out) hHeld ?_
    go_frame
    refine takeL (i := 11) [14] (some 29) (by rfl) rfl rfl (by kernel_rfl) (by kernel_rfl) (by kernel_rfl) (by kernel_rfl) (fun _ _ _ h => h) (by rfl) (fun w hSw => by (try dsimp only at hSw); (refine (?_ : _ = Result.ok (Next.value (.string (strB (S.l.take (S.sure + M))))) _); go_simp; rw [if_neg (by rw [strB_len, strB_len, List.length_take, List.length_take, List.length_drop]; omega), strB_app, ← List.take_add])) hHeld ?_
    go_frame
    refine takeL (i := 12) [13, 14] (some 30) (by rfl) rfl rfl (by kernel_rfl) (by kernel_rfl) (by kernel_rfl) (by kernel_rfl) (fun _ _ _ h => h) (by rfl) (fun w hSw => by (try dsimp only at hSw); go_simp; try rfl) hHeld ?_
    go_frame
    refine takeL (i := 13) [14] (some 31) (by rfl) rfl rfl (by kernel_rfl) (by kernel_rfl) (by kernel_rfl) (by kernel_rfl) (fun _ _ _ h => h) (by rfl) (fun w hSw => by (try dsimp only at hSw); go_simp; try rfl) hHeld ?_
    go_frame
    refine anyL_ready (rs := [14]) (by kernel_rfl) (by simp) (AllL.last rfl (by kernel_rfl) (fun K hK => ?_))
    go_simp
    refine hK.out _ _ ?_
    clear hK K
    refine anyL_done (by kernel_rfl) ?_
    have hB6 := hB'.set 0 (.string (strB (S.l.take (S.sure + M))))
    have k6 := chg_set V r 0 (.string (strB (S.l.take (S.sure + M))))
    clear c0 c1 f0 hHeld
    generalize V.setCell ⟨r, 0, none⟩ (.string (strB (S.l.take (S.sure + M)))) = V6 at *
    have d1 := hB6.at (i := 1) rfl
    have d3 := hB6.at (i := 3) rfl
    have d4 := hB6.at (i := 4) rfl
    have d7 := hB6.at (i := 7) rfl
    have f1 := hB6.frozen 1
    have f3 := hB6.frozen 3
    have f4 := hB6.frozen 4
    have f7 := hB6.frozen 7
    go_wp2_with fail
    go_end0
    refine ⟨rfl, ?_, (((((kd.trans k6).trans (chg_set _ _ _ _)).trans (chg_set _ _ _ _)).trans (chg_set _ _ _ _)).trans (chg_set _ _ _ _))⟩
    rw [HS.out]
    refine ⟨false, lf, un, ?_, (fun _ => rfl), (fun _ h => by cases h), (fun h => by cases h)⟩
    have e := crs_eq S ar lf un (S.sure + M) (by omega)
    rw [← e]
    exact (((hB6.set 1 _).set 3 _).set 4 _).set 7 _
  · by_cases hbig : (a : Int) < k
    · have HE : Hid (M = a) := by show _ = _; omega
      go_upto_region 4 with fail
      have hB' : Blk w.drew r (rcs S ar lf un) 29 := hB
      have kd := chg_drew r w
      refine region_L 14 (S := fun w' => w' = w.drew) (by kernel_rfl) rfl (fun hHeld => ?_)
      clear c1
      generalize w.drew = V at *
      have c0 := (octR hB').c0
      have c1 := (octR hB').c1
      have f0 := hB'.frozen 0
      refine takeL (i := 0) [12, 13, 14] (some 18) (by rfl) rfl rfl (by kernel_rfl) (by kernel_rfl) (by kernel_rfl) (by kernel_rfl) (fun _ _ _ h => h) (by rfl) (fun w hSw => by (try dsimp only at hSw); go_simp; try rfl) hHeld ?_
      go_frame
      refine takeL (i := 1) [2, 3, 4, 11, 14] (some 19) (by rfl) rfl rfl (by kernel_rfl) (by kernel_rfl) (by kernel_rfl) (by kernel_rfl) (fun _ _ _ h => h) (by rfl) (fun w hSw => by (try dsimp only at hSw); go_simp; try rfl) hHeld ?_
      go_frame
      refine takeL (i := 2) [3, 4, 11, 14] (some 20) (by rfl) rfl rfl (by kernel_rfl) (by kernel_rfl) (by kernel_rfl) (by kernel_rfl) (fun _ _ _ h => h) (by rfl) (fun w hSw => by (try dsimp only at hSw); go_simp; try rfl) hHeld ?_
      go_frame
      refine takeL (i := 3) [4, 11, 14] (some 21) (by rfl) rfl rfl (by kernel_rfl) (by kernel_rfl) (by kernel_rfl) (by kernel_rfl) (fun _ _ _ h => h) (by rfl) (fun w hSw => by (try dsimp only at hSw); go_simp; try rfl) hHeld ?_
      go_frame
      refine takeL (i := 4) [11, 14] (some 22) (by rfl) rfl rfl (by kernel_rfl) (by kernel_rfl) (by kernel_rfl) (by kernel_rfl) (fun _ _ _ h => h) (by rfl) (fun w hSw => by (try dsimp only at hSw); (subst hSw; go_simp; try rfl)) hHeld ?_
      go_frame
      refine takeL (i := 5) [6, 7, 8, 10, 11, 14] (some 23) (by rfl) rfl rfl (by kernel_rfl) (by kernel_rfl) (by kernel_rfl) (by kernel_rfl) (fun _ _ _ h => h) (by rfl) (fun w hSw => by (try dsimp only at hSw); go_simp; try rfl) hHeld ?_
      go_frame
      refine takeL (i := 6) [7, 8, 10, 11, 14] (some 24) (by rfl) rfl rfl (by kernel_rfl) (by kernel_rfl) (by kernel_rfl) (by kernel_rfl) (fun _ _ _ h => h) (by rfl) (fun w hSw => by (try dsimp only at hSw); go_simp; try rfl) hHeld ?_
      go_frame
      refine takeL (i := 7) [8, 10, 11, 14] (some 25) (by rfl) rfl rfl (by kernel_rfl) (by kernel_rfl) (by kernel_rfl) (by kernel_rfl) (fun _ _ _ h => h) (by rfl) (fun w hSw => by (try dsimp only at hSw); go_simp; try rfl) hHeld ?_
      go_frame
      refine takeL (i := 8) [10, 11, 14] (some 26) (by rfl) rfl rfl (by kernel_rfl) (by kernel_rfl) (by kernel_rfl) (by kernel_rfl) (fun _ _ _ h => h) (by rfl) (fun w hSw => by (try dsimp only at hSw); (subst hSw; go_simp; try rfl)) hHeld ?_
      go_frame
      refine takeL (i := 9) [10, 11, 14] (some 27) (by rfl) rfl rfl (by kernel_rfl) (by kernel_rfl) (by kernel_rfl) (by kernel_rfl) (fun _ _ _ h => h) (by rfl) (fun w hSw => by (try dsimp only at hSw); go_simp; try rfl) hHeld ?_
      go_frame
      refine takeL (i := 10) [11, 14] (some 28) (by rfl) rfl rfl (by kernel_rfl) (by kernel_rfl) (by kernel_rfl) (by kernel_rfl) (fun _ _ _ h => h) (by rfl) (fun w hSw => by (try dsimp only at hSw); exact ss_run (l := S.l.drop S.sure) (j := M) rfl rfl rfl (by have := HE.out; omega) HML.out) hHeld ?_
      go_frame
      refine takeL (i := 11) [14] (some 29) (by rfl) rfl rfl (by kernel_rfl) (by kernel_rfl) (by kernel_rfl) (by kernel_rfl) (fun _ _ _ h => h) (by rfl) (fun w hSw => by (try dsimp only at hSw); (refine (?_ : _ = Result.ok (Next.value (.string (strB (S.l.take (S.sure + M))))) _); go_simp; rw [if_neg (by rw [strB_len, strB_len, List.length_take, List.length_take, List.length_drop]; omega), strB_app, ← List.take_add])) hHeld ?_
      go_frame
      refine takeL (i := 12) [13, 14] (some 30) (by rfl) rfl rfl (by kernel_rfl) (by kernel_rfl) (by kernel_rfl) (by kernel_rfl) (fun _ _ _ h => h) (by rfl) (fun w hSw => by (try dsimp only at hSw); go_simp; try rfl) hHeld ?_
      go_frame
      refine takeL (i := 13) [14] (some 31) (by rfl) rfl rfl (by kernel_rfl) (by kernel_rfl) (by kernel_rfl) (by kernel_rfl) (fun _ _ _ h => h) (by rfl) (fun w hSw => by (try dsimp only at hSw); go_simp; try rfl) hHeld ?_
      go_frame
      refine anyL_ready (rs := [14]) (by kernel_rfl) (by simp) (AllL.last rfl (by kernel_rfl) (fun K hK => ?_))
      go_simp
      refine hK.out _ _ ?_
      clear hK K
      refine anyL_done (by kernel_rfl) ?_
      have hB6 := hB'.set 0 (.string (strB (S.l.take (S.sure + M))))
      have k6 := chg_set V r 0 (.string (strB (S.l.take (S.sure + M))))
      clear c0 c1 f0 hHeld
      generalize V.setCell ⟨r, 0, none⟩ (.string (strB (S.l.take (S.sure + M)))) = V6 at *
      have d1 := hB6.at (i := 1) rfl
      have d3 := hB6.at (i := 3) rfl
      have d4 := hB6.at (i := 4) rfl
      have d7 := hB6.at (i := 7) rfl
      have f1 := hB6.frozen 1
      have f3 := hB6.frozen 3
      have f4 := hB6.frozen 4
      have f7 := hB6.frozen 7
      go_wp2_with fail
      go_end0
      refine ⟨rfl, ?_, (((((kd.trans k6).trans (chg_set _ _ _ _)).trans (chg_set _ _ _ _)).trans (chg_set _ _ _ _)).trans (chg_set _ _ _ _))⟩
      rw [HS.out]
      refine ⟨false, lf, un, ?_, (fun _ => rfl), (fun _ h => by cases h), (fun h => by cases h)⟩
      have e := crs_eq S ar lf un (S.sure + M) (by omega)
      rw [← e]
      exact (((hB6.set 1 _).set 3 _).set 4 _).set 7 _
    · have hMk : k = ((M : Nat) : Int) := by omega
      subst hMk
      go_upto_region 4 with fail
      have hB' : Blk w.drew r (rcs S ar lf un) 29 := hB
      have kd := chg_drew r w
      refine region_L 14 (S := fun w' => w' = w.drew) (by kernel_rfl) rfl (fun hHeld => ?_)
      clear c1
      generalize w.drew = V at *
      have c0 := (octR hB').c0
      have c1 := (octR hB').c1
      have f0 := hB'.frozen 0
      refine takeL (i := 0) [12, 13, 14] (some 18) (by rfl) rfl rfl (by kernel_rfl) (by kernel_rfl) (by kernel_rfl) (by kernel_rfl) (fun _ _ _ h => h) (by rfl) (fun w hSw => by (try dsimp only at hSw); go_simp; try rfl) hHeld ?_
      go_frame
      refine takeL (i := 1) [2, 3, 4, 11, 14] (some 19) (by rfl) rfl rfl (by kernel_rfl) (by kernel_rfl) (by kernel_rfl) (by kernel_rfl) (fun _ _ _ h => h) (by rfl) (fun w hSw => by (try dsimp only at hSw); go_simp; try rfl) hHeld ?_
      go_frame
      refine takeL (i := 2) [3, 4, 11, 14] (some 20) (by rfl) rfl rfl (by kernel_rfl) (by kernel_rfl) (by kernel_rfl) (by kernel_rfl) (fun _ _ _ h => h) (by rfl) (fun w hSw => by (try dsimp only at hSw); go_simp; try rfl) hHeld ?_
      go_frame
      refine takeL (i := 3) [4, 11, 14] (some 21) (by rfl) rfl rfl (by kernel_rfl) (by kernel_rfl) (by kernel_rfl) (by kernel_rfl) (fun _ _ _ h => h) (by rfl) (fun w hSw => by (try dsimp only at hSw); go_simp; try rfl) hHeld ?_
      go_frame
      refine takeL (i := 4) [11, 14] (some 22) (by rfl) rfl rfl (by kernel_rfl) (by kernel_rfl) (by kernel_rfl) (by kernel_rfl) (fun _ _ _ h => h) (by rfl) (fun w hSw => by (try dsimp only at hSw); (subst hSw; go_simp; try rfl)) hHeld ?_
      go_frame
      refine takeL (i := 5) [6, 7, 8, 10, 11, 14] (some 23) (by rfl) rfl rfl (by kernel_rfl) (by kernel_rfl) (by kernel_rfl) (by kernel_rfl) (fun _ _ _ h => h) (by rfl) (fun w hSw => by (try dsimp only at hSw); go_simp; try rfl) hHeld ?_
      go_frame
      refine takeL (i := 6) [7, 8, 10, 11, 14] (some 24) (by rfl) rfl rfl (by kernel_rfl) (by kernel_rfl) (by kernel_rfl) (by kernel_rfl) (fun _ _ _ h => h) (by rfl) (fun w hSw => by (try dsimp only at hSw); go_simp; try rfl) hHeld ?_
      go_frame
      refine takeL (i := 7) [8, 10, 11, 14] (some 25) (by rfl) rfl rfl (by kernel_rfl) (by kernel_rfl) (by kernel_rfl) (by kernel_rfl) (fun _ _ _ h => h) (by rfl) (fun w hSw => by (try dsimp only at hSw); go_simp; try rfl) hHeld ?_
      go_frame
      refine takeL (i := 8) [10, 11, 14] (some 26) (by rfl) rfl rfl (by kernel_rfl) (by kernel_rfl) (by kernel_rfl) (by kernel_rfl) (fun _ _ _ h => h) (by rfl) (fun w hSw => by (try dsimp only at hSw); (subst hSw; go_simp; try rfl)) hHeld ?_
      go_frame
      refine takeL (i := 9) [10, 11, 14] (some 27) (by rfl) rfl rfl (by kernel_rfl) (by kernel_rfl) (by kernel_rfl) (by kernel_rfl) (fun _ _ _ h => h) (by rfl) (fun w hSw => by (try dsimp only at hSw); go_simp; try rfl) hHeld ?_
      go_frame
      refine takeL (i := 10) [11, 14] (some 28) (by rfl) rfl rfl (by kernel_rfl) (by kernel_rfl) (by kernel_rfl) (by kernel_rfl) (fun _ _ _ h => h) (by rfl) (fun w hSw => by (try dsimp only at hSw); exact ss_run (l := S.l.drop S.sure) (j := M) rfl rfl rfl rfl HML.out) hHeld ?_
      go_frame
      refine takeL (i := 11) [14] (some 29) (by rfl) rfl rfl (by kernel_rfl) (by kernel_rfl) (by kernel_rfl) (by kernel_rfl) (fun _ _ _ h => h) (by rfl) (fun w hSw => by (try dsimp only at hSw); (refine (?_ : _ = Result.ok (Next.value (.string (strB (S.l.take (S.sure + M))))) _); go_simp; rw [if_neg (by rw [strB_len, strB_len, List.length_take, List.length_take, List.length_drop]; omega), strB_app, ← List.take_add])) hHeld ?_
      go_frame
      refine takeL (i := 12) [13, 14] (some 30) (by rfl) rfl rfl (by kernel_rfl) (by kernel_rfl) (by kernel_rfl) (by kernel_rfl) (fun _ _ _ h => h) (by rfl) (fun w hSw => by (try dsimp only at hSw); go_simp; try rfl) hHeld ?_
      go_frame
      refine takeL (i := 13) [14] (some 31) (by rfl) rfl rfl (by kernel_rfl) (by kernel_rfl) (by kernel_rfl) (by kernel_rfl) (fun _ _ _ h => h) (by rfl) (fun w hSw => by (try dsimp only at hSw); go_simp; try rfl) hHeld ?_
      go_frame
      refine anyL_ready (rs := [14]) (by kernel_rfl) (by simp) (AllL.last rfl (by kernel_rfl) (fun K hK => ?_))
      go_simp
      refine hK.out _ _ ?_
      clear hK K
      refine anyL_done (by kernel_rfl) ?_
      have hB6 := hB'.set 0 (.string (strB (S.l.take (S.sure + M))))
      have k6 := chg_set V r 0 (.string (strB (S.l.take (S.sure + M))))
      clear c0 c1 f0 hHeld
      generalize V.setCell ⟨r, 0, none⟩ (.string (strB (S.l.take (S.sure + M)))) = V6 at *
      have d1 := hB6.at (i := 1) rfl
      have d3 := hB6.at (i := 3) rfl
      have d4 := hB6.at (i := 4) rfl
      have d7 := hB6.at (i := 7) rfl
      have f1 := hB6.frozen 1
      have f3 := hB6.frozen 3
      have f4 := hB6.frozen 4
      have f7 := hB6.frozen 7
      go_wp2_with fail
      go_end0
      refine ⟨rfl, ?_, (((((kd.trans k6).trans (chg_set _ _ _ _)).trans (chg_set _ _ _ _)).trans (chg_set _ _ _ _)).trans (chg_set _ _ _ _))⟩
      rw [HS.out]
      refine ⟨false, lf, un, ?_, (fun _ => rfl), (fun _ h => by cases h), (fun h => by cases h)⟩
      have e := crs_eq S ar lf un (S.sure + M) (by omega)
      rw [← e]
      exact (((hB6.set 1 _).set 3 _).set 4 _).set 7 _
end Go.Proofs.Ytalbiggmmmkclaa
namespace Go.Proofs.Ytalbiggmmmkclaa
open Go.RowKit
set_option linter.unusedVariables false

/-- The mark of a place of a list. -/
def mk1 (k j : Nat) : Nat := (29 * k + 5 * j + 3) % 256
theorem mk1_lt (k j : Nat) : mk1 k j < 256 := Nat.mod_lt _ (by decide)
theorem mk1_cast (k j : Nat) : (29 * (k : Int) + 5 * (j : Int) + 3) % 256 = ((mk1 k j : Nat) : Int) := by unfold mk1; omega
/-- A list's marks. -/
def mrk (k : Nat) : Nat → List Nat
  | 0 => []
  | n + 1 => mrk k n ++ [mk1 k n]
theorem mrk_len (k n : Nat) : (mrk k n).length = n := by
  induction n with
  | zero => rfl
  | succ n ih => simp [mrk, ih]
theorem mrk_at (k n j : Nat) (h : j < n) : (mrk k n)[j]? = some (mk1 k j) := by
  induction n with
  | zero => omega
  | succ n ih =>
    rw [mrk]
    by_cases c : j < n
    · rw [List.getElem?_append_left (by rw [mrk_len]; exact c)]; exact ih c
    · have e : j = n := by omega
      subst e
      rw [List.getElem?_append_right (by rw [mrk_len]; exact Nat.le_refl _), mrk_len]; simp
theorem mrk_take (k n m : Nat) (h : m ≤ n) : (mrk k n).take m = mrk k m := by
  apply List.ext_getElem?
  intro j
  by_cases c : j < m
  · rw [List.getElem?_take_of_lt c, mrk_at k n j (by omega), mrk_at k m j c]
  · rw [List.getElem?_eq_none (by rw [List.length_take, mrk_len]; omega), List.getElem?_eq_none (by rw [mrk_len]; omega)]
/-- A list whose first places are marked. -/
def mix (k j : Nat) (l : List Nat) : List Nat := mrk k j ++ l.drop j
theorem mix_zero (k : Nat) (l : List Nat) : mix k 0 l = l := by simp [mix, mrk]
theorem mix_full (k : Nat) (l : List Nat) : mix k l.length l = mrk k l.length := by simp [mix]
theorem mix_len (k j : Nat) (l : List Nat) (h : j ≤ l.length) : (mix k j l).length = l.length := by
  unfold mix
  rw [List.length_append, mrk_len, List.length_drop]
  omega
theorem mix_set (k j : Nat) (l : List Nat) (h : j < l.length) : (mix k j l).set j (mk1 k j) = mix k (j + 1) l := by
  unfold mix
  rw [List.set_append_right _ _ (by rw [mrk_len]; exact Nat.le_refl _), mrk_len, Nat.sub_self, List.drop_eq_getElem_cons h, List.set_cons_zero, mrk, List.append_assoc]
  rfl
/-- Slices kept where another block grows. -/
theorem sl_kept {W W' : World} {v x : Value} {l : List Nat} (h : Sl W v l) (hs : Sep v x) (hg : W.grownBy W' x.ownBlock) : Sl W' v l := by
  obtain ⟨q, cap, rfl, h1, h2, h3⟩ := h
  refine ⟨q, cap, rfl, h1, h2, fun h0 => ?_⟩
  obtain ⟨g, off, rfl, hgl, hr⟩ := h3 h0
  refine ⟨g, off, rfl, Nat.lt_of_lt_of_le hgl hg.size, fun j y hy => ?_⟩
  exact hg.cell (hr j y hy) (fun e => hs g rfl e.symm)
/-- The beginning of an own slice. -/
theorem sl_pre {W : World} {base g n cap : Nat} {v : Value} {k m : Nat} (hv : Ow W base v (mrk k m)) (hb : v.ownBlock = some g) (hn : n ≤ m) (hc : n ≤ cap) (hm : cap ≤ maxLen) : Sl W (.slice (some ⟨g, 0, none⟩) n cap) (mrk k n) := by
  refine sl_of (mrk_len k n) hc hm (fun _ => rfl) (fun _ => (hv.lt g hb).2) (fun j x hx => ?_)
  have hj : j < n := by have := (List.getElem?_eq_some_iff.1 hx).1; rwa [mrk_len] at this
  rw [mrk_at k n j hj] at hx
  have := World.ownsRow.cells hv hb j (.int .u8 ((x : Nat) : Int)) (by rw [bys_at, mrk_at k m j (by omega), hx]; rfl)
  rwa [Addr.add_mid] at this
/-- The shape of an own slice. -/
def Shp (v : Value) (n : Nat) : Prop := v = .slice none 0 0 ∧ n = 0 ∨ ∃ g cap, v = .slice (some ⟨g, 0, none⟩) n cap ∧ n ≤ cap ∧ cap ≤ maxLen
theorem Ow.shp {W : World} {base : Nat} {v : Value} {l : List Nat} (h : Ow W base v l) : Shp v l.length := by
  rcases h.2 with ⟨h1, h2⟩ | ⟨g, cap, cur, h1, _, _, h2, h3, _⟩
  · exact .inl ⟨h1, h2⟩
  · exact .inr ⟨g, cap, h1, h2, h3⟩
/-- append of bytes: where it moves, all that was there stays. -/
theorem app_run2 {w : World} (A : World) (ty : TypeId) {v vx : Value} {n k : Nat} {l m : List Nat} (hown : w.ownsRow A.heap.size 5 1 v n (bys l)) (hsl : Sl w vx m) (hm : m.length = k) (h63 : n + k ≤ 1000000) (hA : Below A.heap.size A w) :
    ∃ v' w', (Builtin.append_ #[39, 39] ty #[v, vx]).run Try.prog w = .ok v' w' ∧ w'.ownsRow A.heap.size 5 1 v' (n + k) (bys (l ++ m)) ∧ Below A.heap.size A w' ∧ w.grownBy w' v.ownBlock ∧ (v'.ownBlock = v.ownBlock ∨ v'.ownBlock = some w.heap.size ∧ w.grownBy w' none) := by
  obtain ⟨v', w', hr, h1, h2, h3, h4, h5⟩ := app_run A ty hown hsl hm h63 hA
  refine ⟨v', w', hr, h1, h3, h4, ?_⟩
  rcases h5 with h5 | h5
  · exact .inl h5
  · rcases hown.2 with ⟨rfl, _⟩ | ⟨g, cap, cur, rfl, hbg, hg, hnc, hcm, hcs, htake⟩
    · exact .inr ⟨h5, h4⟩
    · obtain ⟨i, hi, hz0, hz1, hz2⟩ := info_parts infoByte
      subst hm
      obtain ⟨q, c, rfl, hq, hsrc⟩ := hsl.src
      by_cases hroom : n + m.length ≤ cap
      · left
        cases q with
        | none =>
          have h0 := hq rfl
          have hm0 : m = [] := List.eq_nil_of_length_eq_zero h0
          subst hm0
          have := append_none (P := Try.prog) w A.heap.size 39 ty 5 i 1 c Try.underlying39 hi _ n (bys l) hown
          rw [show ([] : List Nat).length = 0 from rfl, this] at hr
          cases hr
          rfl
        | some ad =>
          have := run_append_room (P := Try.prog) w 39 ty 5 i Try.underlying39 hi g n cap cur hg ad m.length c (bys m) (by rw [bys_len, hz1, Nat.mul_one]) (hsrc ad rfl) (bys_one m) hroom (by rw [bys_len, hz1, hcs]; omega)
          rw [this] at hr
          cases hr
          rfl
      · right
        cases q with
        | none =>
          have h0 := hq rfl
          omega
        | some ad =>
          have := run_append_grow (P := Try.prog) w 39 ty 5 i _ Try.underlying39 hi hz0 ⟨g, 0, none⟩ n cap (bys l) (by rw [hz1]; exact hown.1) (World.ownsRow.cells hown (g := g) rfl) ad m.length c (bys m) (by rw [bys_len, hz1, Nat.mul_one]) (hsrc ad rfl) (by omega) (by omega) (growslice_fits (by omega) (by rw [hz2]; omega))
          rw [this] at hr
          cases hr
          exact ⟨rfl, ⟨rfl, rfl, rfl, by simp, fun b hb _ => heap_alloc_old w.drew _ hb⟩⟩
section
variable {ops : Array Oper} {rest : List Oper} {o : Oper} {a : Act} {w : World} {Q : Exit → Act → World → Prop}
theorem app_by2 (A : World) (hw : Region.wanted o (yielded ops a.tmps) = true) {s x : Operand} (ho : o.op = .call { callee := .builtin .append, args := #[s, x], argTypes := #[39, 39] })
    {v vx : Value} {n k : Nat} {l m : List Nat} (hs : a.eval s = v) (hown : w.ownsRow A.heap.size 5 1 v n (bys l)) (hx : a.eval x = vx) (hsl : Sl w vx m) (hm : m.length = k) (h63 : n + k ≤ 1000000) (hA : Below A.heap.size A w)
    (h : ∀ v' w', w'.ownsRow A.heap.size 5 1 v' (n + k) (bys (l ++ m)) → Below A.heap.size A w' → w.grownBy w' v.ownBlock → (v'.ownBlock = v.ownBlock ∨ v'.ownBlock = some w.heap.size ∧ w.grownBy w' none) → wpList Try.prog ops Q rest (a.put o.dst v') w') : wpList Try.prog ops Q (o :: rest) a w := by
  unfold wpList
  rw [if_pos hw]
  left
  obtain ⟨v', w', hr, h1, h2, h3, h4⟩ := app_run2 A o.type hown hsl hm h63 hA
  unfold Oper.wp execOp
  simp only [ho, resolve, invoke, builtin, Sem.run_bind, Sem.run_pure, Result.andThen_ok, List.map_toArray, List.map_cons, List.map_nil, hs, hx, hr]
  exact h v' w' h1 h2 h3 h4
end
/-- Lists V, the first k of which have been grown to U; y holds these; gv holds V. From o on V are still as they were. -/
structure Gr (W : World) (base : Nat) (gv y : Value) (n o k : Nat) (V U : Nat → Value) (len : Nat → Nat) : Prop where
  own : ∀ j, o ≤ j → j < n → Ow W base (V j) (mrk j (len j))
  rd : ∀ j, j < o → j < n → Sl W (V j) (mrk j (len j))
  grw : ∀ j, j < k → Ow W base (U j) (mrk j (len j + 10))
  lt : ∀ j, j < n → ∀ b, (V j).ownBlock = some b → b < W.heap.size
  vv : ∀ i j, i < n → j < n → i ≠ j → Sep (V i) (V j)
  uv : ∀ i j, i < k → j < n → i ≠ j → Sep (U i) (V j)
  uu : ∀ i j, i < k → j < k → i ≠ j → Sep (U i) (U j)
  yv : ∀ j, j < n → Sep y (V j)
  yu : ∀ j, j < k → Sep y (U j)
  gw : ∀ j, j < n → Sep gv (V j)
  gu : ∀ j, j < k → Sep gv (U j)
  gy : Sep gv y
theorem Gr.keep {W W' : World} {base : Nat} {gv y : Value} {n o k : Nat} {V U : Nat → Value} {len : Nat → Nat} (h : Gr W base gv y n o k V U len) (hb : Below W.heap.size W W') : Gr W' base gv y n o k V U len :=
  ⟨fun j h1 h2 => (h.own j h1 h2).keep hb, fun j h1 h2 => (h.rd j h1 h2).keep hb, fun j h1 => (h.grw j h1).keep hb, fun j h1 b hb2 => Nat.lt_of_lt_of_le (h.lt j h1 b hb2) hb.size, h.vv, h.uv, h.uu, h.yv, h.yu, h.gw, h.gu, h.gy⟩
/-- A list is read from now on. -/
theorem Gr.next {W : World} {base : Nat} {gv y : Value} {n o k : Nat} {V U : Nat → Value} {len : Nat → Nat} (h : Gr W base gv y n o k V U len) : Gr W base gv y n (o + 1) k V U len :=
  ⟨fun j h1 h2 => h.own j (by omega) h2, fun j h1 h2 => by
    by_cases c : j < o
    · exact h.rd j c h2
    · exact (h.own j (by omega) h2).sl, h.grw, h.lt, h.vv, h.uv, h.uu, h.yv, h.yu, h.gw, h.gu, h.gy⟩
/-- A block of none of them grows. -/
structure Apt (gv y x : Value) (n k c : Nat) (V U : Nat → Value) : Prop where
  v : ∀ j, j < n → j ≠ c → Sep (V j) x
  u : ∀ j, j < k → Sep (U j) x
  y : Sep y x
  g : Sep gv x
theorem Gr.kept {W W' : World} {base : Nat} {gv y x : Value} {n k : Nat} {V U : Nat → Value} {len : Nat → Nat} (h : Gr W base gv y n (k + 1) k V U len) (hx : Apt gv y x n k k V U) (hg : W.grownBy W' x.ownBlock) (hr : k < n → Sl W' (V k) (mrk k (len k))) : Gr W' base gv y n (k + 1) k V U len :=
  ⟨fun j h1 h2 => (h.own j h1 h2).kept hg (hx.v j h2 (by omega)), fun j h1 h2 => by
    by_cases c : j = k
    · subst c; exact hr h2
    · exact sl_kept (h.rd j h1 h2) (hx.v j h2 c) hg, fun j h1 => (h.grw j h1).kept hg (hx.u j h1), fun j h1 b hb2 => Nat.lt_of_lt_of_le (h.lt j h1 b hb2) hg.size, h.vv, h.uv, h.uu, h.yv, h.yu, h.gw, h.gu, h.gy⟩
theorem Apt.at {W : World} {base : Nat} {gv y x x' : Value} {n o k c : Nat} {V U : Nat → Value} {len : Nat → Nat} (h : Apt gv y x n k c V U) (hG : Gr W base gv y n o k V U len) (hy : ∀ b, y.ownBlock = some b → b < W.heap.size) (hg : ∀ b, gv.ownBlock = some b → b < W.heap.size) (hat : x'.ownBlock = x.ownBlock ∨ x'.ownBlock = some W.heap.size) : Apt gv y x' n k c V U :=
  ⟨fun j h1 h2 => sep_at (h.v j h1 h2) (hG.lt j h1) hat, fun j h1 => sep_at (h.u j h1) (fun b hb => ((hG.grw j h1).lt b hb).2) hat, sep_at h.y hy hat, sep_at h.g hg hat⟩
/-- A list that has been grown is put with the others. -/
theorem Gr.put {W W' : World} {base : Nat} {gv y y' x : Value} {n k : Nat} {V U : Nat → Value} {len : Nat → Nat} (h : Gr W base gv y n (k + 1) k V U len) (hx : Apt gv y x n k k V U) (hO : Ow W base x (mrk k (len k + 10))) (hg : W.grownBy W' y.ownBlock) (hat : y'.ownBlock = y.ownBlock ∨ y'.ownBlock = some W.heap.size)
    (hgv : ∀ b, gv.ownBlock = some b → b < W.heap.size) : Gr W' base gv y' n (k + 1) (k + 1) V (fun j => if j = k then x else U j) len := by
  have hU : ∀ j, j < k + 1 → (j = k ∧ (if j = k then x else U j) = x) ∨ (j < k ∧ (if j = k then x else U j) = U j) := fun j hj => by
    by_cases c : j = k
    · exact .inl ⟨c, by rw [if_pos c]⟩
    · exact .inr ⟨by omega, by rw [if_neg c]⟩
  refine ⟨fun j h1 h2 => (h.own j h1 h2).kept hg (h.yv j h2).symm, fun j h1 h2 => sl_kept (h.rd j h1 h2) (h.yv j h2).symm hg, fun j h1 => ?_, fun j h1 b hb2 => Nat.lt_of_lt_of_le (h.lt j h1 b hb2) hg.size, h.vv, fun i j h1 h2 h3 => ?_, fun i j h1 h2 h3 => ?_, fun j h1 => (sep_at (h.yv j h1).symm (h.lt j h1) hat).symm, fun j h1 => ?_, h.gw, fun j h1 => ?_, sep_at h.gy hgv hat⟩
  · show Ow W' base (if j = k then x else U j) (mrk j (len j + 10))
    rcases hU j h1 with ⟨e, e2⟩ | ⟨e, e2⟩
    · rw [e2, e]; exact hO.kept hg hx.y.symm
    · rw [e2]; exact (h.grw j e).kept hg (h.yu j e).symm
  · show Sep (if i = k then x else U i) (V j)
    rcases hU i h1 with ⟨e, e2⟩ | ⟨e, e2⟩
    · rw [e2]; exact (hx.v j h2 (by omega)).symm
    · rw [e2]; exact h.uv i j e h2 h3
  · show Sep (if i = k then x else U i) (if j = k then x else U j)
    rcases hU i h1 with ⟨e, e2⟩ | ⟨e, e2⟩ <;> rcases hU j h2 with ⟨f, f2⟩ | ⟨f, f2⟩
    · omega
    · rw [e2, f2]; exact (hx.u j f).symm
    · rw [e2, f2]; exact hx.u i e
    · rw [e2, f2]; exact h.uu i j e f h3
  · show Sep y' (if j = k then x else U j)
    rcases hU j h1 with ⟨e, e2⟩ | ⟨e, e2⟩
    · rw [e2]; exact (sep_at hx.y.symm (fun b hb => (hO.lt b hb).2) hat).symm
    · rw [e2]; exact (sep_at (h.yu j e).symm (fun b hb => ((h.grw j e).lt b hb).2) hat).symm
  · show Sep gv (if j = k then x else U j)
    rcases hU j h1 with ⟨e, e2⟩ | ⟨e, e2⟩
    · rw [e2]; exact hx.g
    · rw [e2]; exact h.gu j e
end Go.Proofs.Ytalbiggmmmkclaa
