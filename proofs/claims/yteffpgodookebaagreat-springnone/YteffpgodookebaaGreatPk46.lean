/-
  Strings of bytes: lengths, sums, parts.
  The document's tape (estuaryref06): its cells; step.
  The document's tape: Append, Sync, Replace, Cut, Crash; estuarynum.Num of any error.
  The document's tape: Crash; estuarynum.Over.
  estuarynum.Over; both tapes side by side; Mw: nothing but the tape's memory and block r has turned.
-/
import Derived.Test.YteffpgodookebaaGreatPk41
import Derived.Laws.Concat
import Derived.Test.YteffpgodookebaaGreatPk23
import Derived.Test.YteffpgodookebaaGreatPk24
namespace Go.Proofs.YteffpgodookebaaGreat
set_option maxRecDepth 100000
open Go.RowKit
set_option linter.unusedVariables false

theorem add_strs (a b : ByteArray) (h : a.size + b.size ≤ 9223372036854775807) (w : World) : (binOp .add 9 (.string a) (.string b)).run Tryz.prog w = .ok (.string (a ++ b)) w := by
  have := run_string_add_sum (P := Tryz.prog) (w := w) a b h
  simp [binOp, this]
theorem add_strB (l m : List Nat) (h : l.length + m.length ≤ 9223372036854775807) (w : World) : (binOp .add 9 (.string (strB l)) (.string (strB m))).run Tryz.prog w = .ok (.string (strB (l ++ m))) w := by
  rw [add_strs _ _ (by rw [strB_len, strB_len]; exact h), strB_app]
theorem strB_take (l : List Nat) (j : Nat) : (strB l).extract 0 j = strB (l.take j) := by
  apply ByteArray.ext
  simp [strB, strOfNums, List.map_take]
/-- 's[:j]' of a string of bytes, its run. -/
theorem ss_run {o : Oper} {w : World} {ρ : Operand → Value} {x y : Operand} (ho : o.op = .slice 9 x none (some y) none) {l : List Nat} {j : Nat} {J : Int} {k : IntKind}
    (hx : ρ x = .string (strB l)) (hy : ρ y = .int k J) (hJ : J = (j : Int)) (hj : j ≤ l.length) : (execOp ρ o).run Tryz.prog w = .ok (.value (.string (strB (l.take j)))) w := by
  subst hJ
  have h2 : (j : Int) ≤ ((strB l).size : Int) := by rw [strB_len]; omega
  unfold execOp
  simp only [ho, hx, hy, Option.map_some, Option.map_none, Sem.run_bind, run_sliceAt_string w 9 _ _ _ _ Tryz.underlying9, run_slice_string_h w 9 (strB l) Tryz.underlying9 k (j : Int) (by omega) h2, Result.andThen_ok, Sem.run_pure, Int.toNat_natCast]
  rw [strB_take]
theorem ss_h {ops : Array Oper} {rest : List Oper} {o : Oper} {a : Act} {w : World} {Q : Exit → Act → World → Prop} (hw : Region.wanted o (yielded ops a.tmps) = true) {x y : Operand} (ho : o.op = .slice 9 x none (some y) none) {l : List Nat} (j : Nat) {J : Int} {k : IntKind}
    (hx : a.eval x = .string (strB l)) (hy : a.eval y = .int k J) (hJ : J = (j : Int)) (hj : j ≤ l.length)
    (h : wpList Tryz.prog ops Q rest (a.put o.dst (.string (strB (l.take j)))) w) : wpList Tryz.prog ops Q (o :: rest) a w :=
  valS hw _ (ss_run ho hx hy hJ hj) h
end Go.Proofs.YteffpgodookebaaGreat
namespace Go.Proofs.YteffpgodookebaaGreat
set_option maxRecDepth 100000
open Go.RowKit
set_option linter.unusedVariables false

def rcs (S : TS) (ar : Bool) (lf un : Int) : Array Value := #[.string (strB (S.l.take S.sure)), .string (strB (S.l.drop S.sure)), .int .i64 ((S.steps : Nat) : Int), .bool ar, .bool S.rs, .int .i64 lf, .int .i64 un, .bool S.down]
/-- The document's tape at block r holds what the tape S holds. -/
def Rf (W : World) (r : Nat) (S : TS) : Prop := ∃ ar lf un, Blk W r (rcs S ar lf un) 31 ∧ (S.down = false → ar = S.os) ∧ (S.down = false → S.os = true → lf = ((S.oa : Nat) : Int)) ∧ (S.rs = true → un = ((S.ra : Nat) : Int))
theorem Rf.keep {W W' : World} {r : Nat} {S : TS} (h : Rf W r S) (hb : Below W.heap.size W W') : Rf W' r S := by
  obtain ⟨ar, lf, un, h1, h2⟩ := h
  exact ⟨ar, lf, un, h1.keep hb, h2⟩
theorem Rf.lt {W : World} {r : Nat} {S : TS} (h : Rf W r S) : r < W.heap.size := by
  obtain ⟨ar, lf, un, h1, h2⟩ := h
  exact h1.lt
theorem Rf.at {W W' : World} {r : Nat} {S : TS} (h : Rf W r S) (he : W'.heap[r]? = W.heap[r]?) : Rf W' r S := by
  obtain ⟨ar, lf, un, h1, h2⟩ := h
  exact ⟨ar, lf, un, by unfold Blk; rw [he]; exact h1, h2⟩
structure OctR (W : World) (r : Nat) (S : TS) (ar : Bool) (lf un : Int) : Prop where
  c0 : W.cell? ⟨r, 0, none⟩ = some (.string (strB (S.l.take S.sure)))
  c1 : W.cell? ⟨r, 1, none⟩ = some (.string (strB (S.l.drop S.sure)))
  c2 : W.cell? ⟨r, 2, none⟩ = some (.int .i64 ((S.steps : Nat) : Int))
  c3 : W.cell? ⟨r, 3, none⟩ = some (.bool ar)
  c4 : W.cell? ⟨r, 4, none⟩ = some (.bool S.rs)
  c5 : W.cell? ⟨r, 5, none⟩ = some (.int .i64 lf)
  c6 : W.cell? ⟨r, 6, none⟩ = some (.int .i64 un)
  c7 : W.cell? ⟨r, 7, none⟩ = some (.bool S.down)
theorem octR {W : World} {r : Nat} {S : TS} {ar : Bool} {lf un : Int} (h : Blk W r (rcs S ar lf un) 31) : OctR W r S ar lf un := ⟨h.at rfl, h.at rfl, h.at rfl, h.at rfl, h.at rfl, h.at rfl, h.at rfl, h.at rfl⟩
set_option maxHeartbeats 1000000 in
theorem rstep_any (r : Nat) (S : TS) (w : World) (h : Rf w r S) (hst : S.steps < 4611686018427387904) (hoa : S.oa ≤ 9223372036854775807) (hra : S.ra ≤ 9223372036854775807) :
    Calls Tryz.prog 82 #[tptr r] w fun e w' => e = .returned (.int .i64 ((stN S : Nat) : Int)) ∧ Rf w' r (stS S) ∧ Chg r w w' := by
  obtain ⟨l, sure, steps, os, oa, rs, ra, down⟩ := S
  obtain ⟨ar, lf, un, hB, har, hlf, hun⟩ := h
  dsimp only at hst hoa hra har hlf hun
  cases down with
  | true =>
    have c7 := (octR hB).c7
    dsimp only at c7
    go_enter Tryz.func82, Tryz.ntmps82
    go_wp2_with fail
    go_ret
    exact ⟨rfl, ⟨ar, lf, un, hB, har, hlf, hun⟩, Chg.refl _ _⟩
  | false =>
    obtain rfl := har rfl
    have c2 := (octR hB).c2
    have c3 := (octR hB).c3
    have c4 := (octR hB).c4
    have c5 := (octR hB).c5
    have c6 := (octR hB).c6
    have c7 := (octR hB).c7
    dsimp only at c2 c3 c4 c5 c6 c7
    have f2 := hB.frozen 2
    have f4 := hB.frozen 4
    have f5 := hB.frozen 5
    have f6 := hB.frozen 6
    have f7 := hB.frozen 7
    cases ar with
    | false =>
      cases rs with
      | false =>
        go_enter Tryz.func82, Tryz.ntmps82
        go_wp2_with fail
        go_ret
        exact ⟨rfl, ⟨false, lf, un, (hB.set 2 (.int .i64 ((steps + 1 : Nat) : Int))), (fun _ => rfl), (fun _ h => by cases h), (fun h => by cases h)⟩, chg_set _ _ _ _⟩
      | true =>
        obtain rfl := hun rfl
        cases ra with
        | zero =>
          have c6' : w.cell? ⟨r, 6, none⟩ = some (.int .i64 0) := c6
          clear c6
          go_enter Tryz.func82, Tryz.ntmps82
          go_wp2_with fail
          go_ret
          exact ⟨rfl, ⟨false, lf, ((0 : Nat) : Int), ((hB.set 2 (.int .i64 ((steps + 1 : Nat) : Int))).set 4 (.bool false)), (fun _ => rfl), (fun _ h => by cases h), (fun h => by cases h)⟩, (chg_set _ _ _ _).trans (chg_set _ _ _ _)⟩
        | succ n =>
          have h0 : (((n + 1 : Nat) : Int) == 0) = false := by simp; omega
          have h1 : ((n + 1 : Nat) : Int) - 1 = ((n : Nat) : Int) := by omega
          generalize ((n + 1 : Nat) : Int) = N at *
          have hN : N = n + 1 := by omega
          go_enter Tryz.func82, Tryz.ntmps82
          go_wp2_with fail
          go_ret
          exact ⟨rfl, ⟨false, lf, ((n : Nat) : Int), ((hB.set 2 (.int .i64 ((steps + 1 : Nat) : Int))).set 6 (.int .i64 ((n : Nat) : Int))), (fun _ => rfl), (fun _ h => by cases h), (fun _ => rfl)⟩, (chg_set _ _ _ _).trans (chg_set _ _ _ _)⟩
    | true =>
      obtain rfl := hlf rfl rfl
      cases oa with
      | zero =>
        have c5' : w.cell? ⟨r, 5, none⟩ = some (.int .i64 0) := c5
        clear c5
        go_enter Tryz.func82, Tryz.ntmps82
        go_wp2_with fail
        go_ret
        exact ⟨rfl, ⟨true, ((0 : Nat) : Int), un, hB.set 7 (.bool true), (fun h => by cases h), (fun h => by cases h), hun⟩, chg_set _ _ _ _⟩
      | succ m =>
        have g0 : (((m + 1 : Nat) : Int) == 0) = false := by simp; omega
        have g1 : ((m + 1 : Nat) : Int) - 1 = ((m : Nat) : Int) := by omega
        generalize hM' : ((m + 1 : Nat) : Int) = M at *
        have hM : M = m + 1 := by omega
        clear hM' hlf
        cases rs with
        | false =>
          go_enter Tryz.func82, Tryz.ntmps82
          go_wp2_with fail
          go_ret
          exact ⟨rfl, ⟨true, ((m : Nat) : Int), un, ((hB.set 5 (.int .i64 ((m : Nat) : Int))).set 2 (.int .i64 ((steps + 1 : Nat) : Int))), (fun _ => rfl), (fun _ _ => rfl), (fun h => by cases h)⟩, (chg_set _ _ _ _).trans (chg_set _ _ _ _)⟩
        | true =>
          obtain rfl := hun rfl
          cases ra with
          | zero =>
            have c6' : w.cell? ⟨r, 6, none⟩ = some (.int .i64 0) := c6
            clear c6
            go_enter Tryz.func82, Tryz.ntmps82
            go_wp2_with fail
            go_ret
            exact ⟨rfl, ⟨true, ((m : Nat) : Int), ((0 : Nat) : Int), (((hB.set 5 (.int .i64 ((m : Nat) : Int))).set 2 (.int .i64 ((steps + 1 : Nat) : Int))).set 4 (.bool false)), (fun _ => rfl), (fun _ _ => rfl), (fun h => by cases h)⟩, ((chg_set _ _ _ _).trans (chg_set _ _ _ _)).trans (chg_set _ _ _ _)⟩
          | succ n =>
            have h0 : (((n + 1 : Nat) : Int) == 0) = false := by simp; omega
            have h1 : ((n + 1 : Nat) : Int) - 1 = ((n : Nat) : Int) := by omega
            generalize ((n + 1 : Nat) : Int) = N at *
            have hN : N = n + 1 := by omega
            go_enter Tryz.func82, Tryz.ntmps82
            go_wp2_with fail
            go_ret
            exact ⟨rfl, ⟨true, ((m : Nat) : Int), ((n : Nat) : Int), (((hB.set 5 (.int .i64 ((m : Nat) : Int))).set 2 (.int .i64 ((steps + 1 : Nat) : Int))).set 6 (.int .i64 ((n : Nat) : Int))), (fun _ => rfl), (fun _ _ => rfl), (fun _ => rfl)⟩, ((chg_set _ _ _ _).trans (chg_set _ _ _ _)).trans (chg_set _ _ _ _)⟩
end Go.Proofs.YteffpgodookebaaGreat
namespace Go.Proofs.YteffpgodookebaaGreat
set_option maxRecDepth 100000
open Go.RowKit
set_option linter.unusedVariables false

theorem chg_drewN (b : Nat) (w : World) (n : Nat) : Chg b w (w.drewN n) := ⟨rfl, rfl, rfl, rfl, fun _ _ => rfl⟩
theorem chg_drew (b : Nat) (w : World) : Chg b w w.drew := ⟨rfl, rfl, rfl, rfl, fun _ _ => rfl⟩
theorem strB_nil : (⟨#[]⟩ : ByteArray) = strB [] := rfl
theorem rcs_eq (S S' : TS) (ar : Bool) (lf un : Int) (x y : List Nat) (hx : S'.l.take S'.sure = x) (hy : S'.l.drop S'.sure = y) (h2 : S'.steps = S.steps) (h4 : S'.rs = S.rs) (h7 : S'.down = S.down) :
    ((rcs S ar lf un).setIfInBounds 0 (.string (strB x))).setIfInBounds 1 (.string (strB y)) = rcs S' ar lf un := by
  unfold rcs; rw [hx, hy, h2, h4, h7]; rfl
theorem rcs_eq1 (S S' : TS) (ar : Bool) (lf un : Int) (y : List Nat) (hx : S'.l.take S'.sure = S.l.take S.sure) (hy : S'.l.drop S'.sure = y) (h2 : S'.steps = S.steps) (h4 : S'.rs = S.rs) (h7 : S'.down = S.down) :
    (rcs S ar lf un).setIfInBounds 1 (.string (strB y)) = rcs S' ar lf un := by
  unfold rcs; rw [hx, hy, h2, h4, h7]; rfl
theorem num_any (n : Nat) (w : World) : Calls Tryz.prog 14 #[errV n] w fun e w' => e = .returned (.int .i64 ((n : Nat) : Int)) ∧ w' = w := by
  by_cases h : n = 0
  · subst h; exact num_nil w
  · rw [errV_no h]; exact num_err _ (by omega) w
set_option maxHeartbeats 1000000 in
theorem rappend_any (r : Nat) (S : TS) (m : List Nat) (w : World) (h : Rf w r S) (hsu : S.sure ≤ S.l.length) (hmx : S.l.length ≤ 1048576) (hm : m.length ≤ 1000000) (hst : S.steps < 4611686018427387904) (hoa : S.oa ≤ 9223372036854775807) (hra : S.ra ≤ 9223372036854775807) :
    Calls Tryz.prog 41 #[tptr r, .string (strB m)] w fun e w' => e = .returned (.int .i64 ((apN S m.length : Nat) : Int)) ∧ Rf w' r (apS S m) ∧ Chg r w w' := by
  have hl3 := stS_l S
  obtain ⟨ar, lf, un, hB, har, hlf, hun⟩ := id h
  have c0 := (octR hB).c0
  have c1 := (octR hB).c1
  have z0 : (strB (S.l.take S.sure)).size = S.sure := by rw [strB_len, List.length_take]; omega
  have z1 : (strB (S.l.drop S.sure)).size = S.l.length - S.sure := by rw [strB_len, List.length_drop]
  have zm : (strB m).size = m.length := strB_len m
  have HN : Hid (apN S m.length = if S.l.length + m.length ≤ 1048576 then stN S else 7) := rfl
  have HS : Hid (apS S m = if S.l.length + m.length ≤ 1048576 then (if stN S = 0 then { stS S with l := S.l ++ m } else stS S) else S) := rfl
  have HTk : Hid ((S.l ++ m).take S.sure = S.l.take S.sure) := List.take_append_of_le_length hsu
  have HDr : Hid ((S.l ++ m).drop S.sure = S.l.drop S.sure ++ m) := List.drop_append_of_le_length hsu
  clear hB har hlf hun
  go_enter Tryz.func41, Tryz.ntmps41
  go_upto_region 1 with fail
  generalize hn : S.l.length = n at *
  generalize hs : S.sure = s at *
  generalize hk : m.length = k at *
  obtain ⟨a, ha⟩ : ∃ a, n - s = a := ⟨_, rfl⟩
  rw [ha] at z1
  go_quiet (fail)
  have b1 : Below w.heap.size w (w.drewN nq) := below_drewN (Below.refl _ _) nq
  have h1 := h.keep b1
  have bq := chg_drewN r w nq
  clear c0 c1 z0 z1
  generalize w.drewN nq = V at *
  by_cases hfit : n + k ≤ 1048576
  · have hfi : ¬ (1048576 : Int) < (s : Int) + (a : Int) + (k : Int) := by omega
    go_upto_region 4 with (go_at_call 82; refine (rstep_any r S _ h1 hst hoa hra).mono ?_; rintro e V2 ⟨rfl, h2, k2⟩)
    by_cases h0 : stN S = 0
    · have HN2 : Hid (apN S k = 0) := HN.out.trans ((if_pos hfit).trans h0)
      have HS2 : Hid (apS S m = { stS S with l := S.l ++ m }) := HS.out.trans ((if_pos hfit).trans (if_pos h0))
      rw [h0]
      obtain ⟨ar, lf, un, hB, har, hlf, hun⟩ := h2
      have c1 := (octR hB).c1
      rw [hl3.1, hl3.2] at c1
      have f1 := hB.frozen 1
      have hsz : ¬ 9223372036854775807 < (strB (S.l.drop s)).size + (strB m).size := by rw [strB_len, strB_len, List.length_drop]; omega
      rw [zm] at hsz
      clear HN HS h0 hl3
      go_wp2_with fail
      go_ret
      refine ⟨by (try rw [hk]); rw [HN2.out]; rfl, ?_, bq.trans (k2.trans (chg_set _ _ _ _))⟩
      rw [HS2.out, strB_app]
      have hl3 := stS_l S
      exact ⟨ar, lf, un, by rw [← rcs_eq1 (stS S) { stS S with l := S.l ++ m } ar lf un (S.l.drop s ++ m) (by show (S.l ++ m).take (stS S).sure = _; rw [hl3.1, hl3.2, hs, HTk.out]) (by show (S.l ++ m).drop (stS S).sure = _; rw [hl3.2, hs, HDr.out]) rfl rfl rfl]; exact hB.set 1 _, har, hlf, hun⟩
    · have HN2 : Hid (apN S k = stN S) := HN.out.trans (if_pos hfit)
      have HS2 : Hid (apS S m = stS S) := HS.out.trans ((if_pos hfit).trans (if_neg h0))
      have h0' : (((stN S : Nat) : Int) == 0) = false := by simp [h0]
      generalize hX : ((stN S : Nat) : Int) = X at *
      go_wp2_with fail
      go_ret
      exact ⟨by (try rw [hk]); rw [HN2.out, hX]; rfl, by rw [HS2.out]; exact h2, bq.trans k2⟩
  · have hfi : (1048576 : Int) < (s : Int) + (a : Int) + (k : Int) := by omega
    have HN2 : Hid (apN S k = 7) := HN.out.trans (if_neg hfit)
    have HS2 : Hid (apS S m = S) := HS.out.trans (if_neg hfit)
    go_wp2_with fail
    go_ret
    exact ⟨by (try rw [hk]); rw [HN2.out]; rfl, by rw [HS2.out]; exact h1, bq⟩
set_option maxHeartbeats 1000000 in
theorem rsync_any (r : Nat) (S : TS) (w : World) (h : Rf w r S) (hsu : S.sure ≤ S.l.length) (hmx : S.l.length ≤ 1048576) (hst : S.steps < 4611686018427387904) (hoa : S.oa ≤ 9223372036854775807) (hra : S.ra ≤ 9223372036854775807) :
    Calls Tryz.prog 132 #[tptr r] w fun e w' => e = .returned (.int .i64 ((stN S : Nat) : Int)) ∧ Rf w' r (syS S) ∧ Chg r w w' := by
  have hl3 := stS_l S
  go_enter Tryz.func132, Tryz.ntmps132
  go_upto_region 2 with (go_at_call 82; refine (rstep_any r S _ h hst hoa hra).mono ?_; rintro e V2 ⟨rfl, h2, k2⟩)
  by_cases h0 : stN S = 0
  · have HS2 : Hid (syS S = { stS S with sure := S.l.length }) := if_pos h0
    have HN2 : Hid (stN S = 0) := h0
    rw [h0]
    clear h0
    obtain ⟨ar, lf, un, hB, har, hlf, hun⟩ := h2
    go_upto_region 3 with fail
    have hB' : Blk V2.drew r (rcs (stS S) ar lf un) 31 := hB
    have kd := chg_drew r V2
    refine region_L 12 (S := fun w' => w' = V2.drew) (by kernel_rfl) rfl (fun hHeld => ?_)
    generalize V2.drew = V at *
    have c0 := (octR hB').c0
    have c1 := (octR hB').c1
    rw [hl3.1, hl3.2] at c0 c1
    have f0 := hB'.frozen 0
    have f1 := hB'.frozen 1
    refine takeL (i := 0) [10, 11, 12] (some 8) (by rfl) rfl rfl (by kernel_rfl) (by kernel_rfl) (by kernel_rfl) (by kernel_rfl) (fun _ _ _ h => h) (by rfl) (fun w hSw => by (try dsimp only at hSw); go_simp; try rfl) hHeld ?_
    go_frame
    refine takeL (i := 1) [2, 3, 4, 9, 12] (some 9) (by rfl) rfl rfl (by kernel_rfl) (by kernel_rfl) (by kernel_rfl) (by kernel_rfl) (fun _ _ _ h => h) (by rfl) (fun w hSw => by (try dsimp only at hSw); go_simp; try rfl) hHeld ?_
    go_frame
    refine takeL (i := 2) [3, 4, 9, 12] (some 10) (by rfl) rfl rfl (by kernel_rfl) (by kernel_rfl) (by kernel_rfl) (by kernel_rfl) (fun _ _ _ h => h) (by rfl) (fun w hSw => by (try dsimp only at hSw); go_simp; try rfl) hHeld ?_
    go_frame
    refine takeL (i := 3) [4, 9, 12] (some 11) (by rfl) rfl rfl (by kernel_rfl) (by kernel_rfl) (by kernel_rfl) (by kernel_rfl) (fun _ _ _ h => h) (by rfl) (fun w hSw => by (try dsimp only at hSw); go_simp; try rfl) hHeld ?_
    go_frame
    refine takeL (i := 4) [9, 12] (some 12) (by rfl) rfl rfl (by kernel_rfl) (by kernel_rfl) (by kernel_rfl) (by kernel_rfl) (fun _ _ _ h => h) (by rfl) (fun w hSw => by (try dsimp only at hSw); (subst hSw; go_simp; try rfl)) hHeld ?_
    go_frame
    refine takeL (i := 5) [6, 7, 8, 9, 12] (some 13) (by rfl) rfl rfl (by kernel_rfl) (by kernel_rfl) (by kernel_rfl) (by kernel_rfl) (fun _ _ _ h => h) (by rfl) (fun w hSw => by (try dsimp only at hSw); go_simp; try rfl) hHeld ?_
    go_frame
    refine takeL (i := 6) [7, 8, 9, 12] (some 14) (by rfl) rfl rfl (by kernel_rfl) (by kernel_rfl) (by kernel_rfl) (by kernel_rfl) (fun _ _ _ h => h) (by rfl) (fun w hSw => by (try dsimp only at hSw); go_simp; try rfl) hHeld ?_
    go_frame
    refine takeL (i := 7) [8, 9, 12] (some 15) (by rfl) rfl rfl (by kernel_rfl) (by kernel_rfl) (by kernel_rfl) (by kernel_rfl) (fun _ _ _ h => h) (by rfl) (fun w hSw => by (try dsimp only at hSw); go_simp; try rfl) hHeld ?_
    go_frame
    refine takeL (i := 8) [9, 12] (some 16) (by rfl) rfl rfl (by kernel_rfl) (by kernel_rfl) (by kernel_rfl) (by kernel_rfl) (fun _ _ _ h => h) (by rfl) (fun w hSw => by (try dsimp only at hSw); (subst hSw; go_simp; try rfl)) hHeld ?_
    go_frame
    refine takeL (i := 9) [12] (some 17) (by rfl) rfl rfl (by kernel_rfl) (by kernel_rfl) (by kernel_rfl) (by kernel_rfl) (fun _ _ _ h => h) (by rfl) (fun w hSw => by (try dsimp only at hSw); (refine (?_ : _ = Result.ok (Next.value (.string (strB S.l))) _); go_simp; rw [if_neg (by rw [strB_len, strB_len, List.length_take, List.length_drop]; omega), strB_app, List.take_append_drop])) hHeld ?_
    go_frame
    refine takeL (i := 10) [11, 12] (some 18) (by rfl) rfl rfl (by kernel_rfl) (by kernel_rfl) (by kernel_rfl) (by kernel_rfl) (fun _ _ _ h => h) (by rfl) (fun w hSw => by (try dsimp only at hSw); go_simp; try rfl) hHeld ?_
    go_frame
    refine takeL (i := 11) [12] (some 19) (by rfl) rfl rfl (by kernel_rfl) (by kernel_rfl) (by kernel_rfl) (by kernel_rfl) (fun _ _ _ h => h) (by rfl) (fun w hSw => by (try dsimp only at hSw); go_simp; try rfl) hHeld ?_
    go_frame
    refine anyL_ready (rs := [12]) (by kernel_rfl) (by simp) (AllL.last rfl (by kernel_rfl) (fun K hK => ?_))
    go_simp
    refine hK.out _ _ ?_
    clear hK K
    refine anyL_done (by kernel_rfl) ?_
    have hB6 := hB'.set 0 (.string (strB S.l))
    have k6 := chg_set V r 0 (.string (strB S.l))
    clear c0 c1 f0 f1 hHeld
    generalize V.setCell ⟨r, 0, none⟩ (.string (strB S.l)) = V6 at *
    have d1 := hB6.at (i := 1) rfl
    have f1 := hB6.frozen 1
    go_wp2_with fail
    go_ret
    refine ⟨by rw [HN2.out]; rfl, ?_, ((k2.trans kd).trans k6).trans (chg_set _ _ _ _)⟩
    rw [HS2.out]
    exact ⟨ar, lf, un, by rw [← rcs_eq (stS S) { stS S with sure := S.l.length } ar lf un S.l [] (by show (stS S).l.take S.l.length = _; rw [hl3.1, List.take_length]) (by show (stS S).l.drop S.l.length = _; rw [hl3.1, List.drop_length]) rfl rfl rfl]; exact hB6.set 1 _, har, hlf, hun⟩
  · have HS2 : Hid (syS S = stS S) := if_neg h0
    have h0' : (((stN S : Nat) : Int) == 0) = false := by simp [h0]
    generalize hX : ((stN S : Nat) : Int) = X at *
    go_wp2_with fail
    go_ret
    exact ⟨by rw [hX]; rfl, by rw [HS2.out]; exact h2, k2⟩
set_option maxHeartbeats 1000000 in
theorem rreplace_any (r : Nat) (S : TS) (m : List Nat) (w : World) (h : Rf w r S) (hm : m.length ≤ 1000000) (hst : S.steps < 4611686018427387904) (hoa : S.oa ≤ 9223372036854775807) (hra : S.ra ≤ 9223372036854775807) :
    Calls Tryz.prog 96 #[tptr r, .string (strB m)] w fun e w' => e = .returned (.int .i64 ((rpN S m.length : Nat) : Int)) ∧ Rf w' r (rpS S m) ∧ Chg r w w' := by
  have hfi : ¬ (1048576 : Int) < (m.length : Int) := by omega
  have zm : (strB m).size = m.length := strB_len m
  have HN : Hid (rpN S m.length = stN S) := if_pos (by omega)
  have HS : Hid (rpS S m = if stN S = 0 then { stS S with l := m, sure := m.length } else stS S) := if_pos (by omega)
  go_enter Tryz.func96, Tryz.ntmps96
  go_upto_region 4 with (go_at_call 82; refine (rstep_any r S _ h hst hoa hra).mono ?_; rintro e V2 ⟨rfl, h2, k2⟩)
  by_cases h0 : stN S = 0
  · have HS2 : Hid (rpS S m = { stS S with l := m, sure := m.length }) := HS.out.trans (if_pos h0)
    have HN2 : Hid (rpN S m.length = 0) := HN.out.trans h0
    rw [h0]
    clear h0 HN HS
    obtain ⟨ar, lf, un, hB, har, hlf, hun⟩ := h2
    have c0 := (octR hB).c0
    have c1 := (octR hB).c1
    have f0 := hB.frozen 0
    have f1 := hB.frozen 1
    go_wp2_with fail
    go_ret
    refine ⟨by rw [HN2.out]; rfl, ?_, (k2.trans (chg_set _ _ _ _)).trans (chg_set _ _ _ _)⟩
    rw [HS2.out]
    exact ⟨ar, lf, un, by rw [← rcs_eq (stS S) { stS S with l := m, sure := m.length } ar lf un m [] (by show m.take m.length = _; rw [List.take_length]) (by show m.drop m.length = _; rw [List.drop_length]) rfl rfl rfl]; exact (hB.set 0 _).set 1 _, har, hlf, hun⟩
  · have HS2 : Hid (rpS S m = stS S) := HS.out.trans (if_neg h0)
    have h0' : (((stN S : Nat) : Int) == 0) = false := by simp [h0]
    generalize hX : ((stN S : Nat) : Int) = X at *
    go_wp2_with fail
    go_ret
    exact ⟨by rw [HN.out, hX]; rfl, by rw [HS2.out]; exact h2, k2⟩
set_option maxHeartbeats 1000000 in
theorem rcut_any (r : Nat) (S : TS) (w : World) (h : Rf w r S) (hsu : S.sure ≤ S.l.length) :
    Calls Tryz.prog 133 #[tptr r] w fun e w' => e = .returned (.tuple #[]) ∧ Rf w' r (ctS S) ∧ Chg r w w' := by
  obtain ⟨ar, lf, un, hB, har, hlf, hun⟩ := h
  have c1 := (octR hB).c1
  have c7 := (octR hB).c7
  have f1 := hB.frozen 1
  by_cases hd : S.down = true
  · have hS : Hid (ctS S = S) := if_pos hd
    rw [hd] at c7
    go_enter Tryz.func133, Tryz.ntmps133
    go_wp2_with fail
    go_end0
    exact ⟨rfl, by rw [hS.out]; exact ⟨ar, lf, un, hB, har, hlf, hun⟩, Chg.refl _ _⟩
  · have hS : Hid (ctS S = { S with l := S.l.take S.sure }) := if_neg hd
    have hd' : S.down = false := by simpa using hd
    rw [hd'] at c7
    go_enter Tryz.func133, Tryz.ntmps133
    go_wp2_with fail
    go_end0
    refine ⟨rfl, ?_, chg_set _ _ _ _⟩
    rw [hS.out]
    exact ⟨ar, lf, un, by rw [← rcs_eq1 S { S with l := S.l.take S.sure } ar lf un [] (by show (S.l.take S.sure).take S.sure = _; rw [List.take_take, Nat.min_self]) (by show (S.l.take S.sure).drop S.sure = _; rw [List.drop_eq_nil_of_le (by rw [List.length_take]; omega)]) rfl rfl rfl]; exact hB.set 1 _, har, hlf, hun⟩
end Go.Proofs.YteffpgodookebaaGreat
namespace Go.Proofs.YteffpgodookebaaGreat
set_option maxRecDepth 100000
open Go.RowKit
set_option linter.unusedVariables false

theorem crs_eq (S : TS) (ar : Bool) (lf un : Int) (j : Nat) (hj : j ≤ S.l.length) :
    (((((rcs S ar lf un).setIfInBounds 0 (.string (strB (S.l.take j)))).setIfInBounds 1 (.string ⟨#[]⟩)).setIfInBounds 3 (.bool false)).setIfInBounds 4 (.bool false)).setIfInBounds 7 (.bool false) = rcs ⟨S.l.take j, j, S.steps, false, 0, false, 0, false⟩ false lf un := by
  have h1 : (S.l.take j).take j = S.l.take j := by rw [List.take_take, Nat.min_self]
  have h2 : (S.l.take j).drop j = [] := List.drop_eq_nil_of_le (by rw [List.length_take]; omega)
  unfold rcs
  dsimp only
  rw [h1, h2]
  rfl
set_option maxHeartbeats 2000000 in
theorem rcrash_any (r : Nat) (S : TS) (k : Int) (w : World) (h : Rf w r S) (hsu : S.sure ≤ S.l.length) (hmx : S.l.length ≤ 1048576) (hk : -9223372036854775808 ≤ k ∧ k ≤ 9223372036854775807) :
    Calls Tryz.prog 26 #[tptr r, .int .i64 k] w fun e w' => e = .returned (.tuple #[]) ∧ Rf w' r (crS S k) ∧ Chg r w w' := by
  obtain ⟨ar, lf, un, hB, har, hlf, hun⟩ := h
  clear har hlf hun
  obtain ⟨M, hM⟩ : ∃ M, kp S k = M := ⟨_, rfl⟩
  have hM1 : M ≤ S.l.length - S.sure := by rw [← hM]; unfold kp; omega
  have HS : Hid (crS S k = ⟨S.l.take (S.sure + M), S.sure + M, S.steps, false, 0, false, 0, false⟩) := by show _ = _; unfold crS; rw [hM]
  have HML : Hid (M ≤ (S.l.drop S.sure).length) := by show _ ≤ _; rw [List.length_drop]; exact hM1
  have c1 := (octR hB).c1
  have z1 : (strB (S.l.drop S.sure)).size = S.l.length - S.sure := by rw [strB_len, List.length_drop]
  obtain ⟨a, ha⟩ : ∃ a, S.l.length - S.sure = a := ⟨_, rfl⟩
  rw [ha] at z1
  unfold kp at hM
  go_enter Tryz.func26, Tryz.ntmps26
  by_cases hneg : k < 0
  · have HE : Hid (M = 0) := by show _ = _; omega
    have h00 : ¬ (a : Int) < 0 := by omega
    go_upto_region 4 with fail
    have hB' : Blk w.drew r (rcs S ar lf un) 31 := hB
    have kd := chg_drew r w
    refine region_L 14 (S := fun w' => w' = w.drew) (by kernel_rfl) rfl (fun hHeld => ?_)
    clear c1
    generalize w.drew = V at *
    have c0 := (octR hB').c0
    have c1 := (octR hB').c1
    have f0 := hB'.frozen 0
    refine takeL (i := 0) [12, 13, 14] (some 18) (by rfl) rfl rfl (by kernel_rfl) (by kernel_rfl) (by kernel_rfl) (by kernel_rfl) (fun _ _ _ h => h) (by rfl) (fun w hSw => by (try dsimp only at hSw); go_simp; try rfl) hHeld ?_
    go_frame
    refine takeL (i := 1) [2, 3, 4, 11, 14] (some 19) (by rfl) rfl rfl (by kernel_rfl) (by kernel_rfl) (by kernel_rfl) (by kernel_rfl) (fun _ _ _ h => h) (by rfl) (fun w hSw => by (try dsimp only at hSw); go_simp; try rfl) hHeld ?_
    go_frame
    refine takeL (i := 2) [3, 4, 11, 14] (some 20) (by rfl) rfl rfl (by kernel_rfl) (by kernel_rfl) (by kernel_rfl) (by kernel_rfl) (fun _ _ _ h => h) (by rfl) (fun w hSw => by (try dsimp only at hSw); go_simp; try rfl) hHeld ?_
    go_frame
    refine takeL (i := 3) [4, 11, 14] (some 21) (by rfl) rfl rfl (by kernel_rfl) (by kernel_rfl) (by kernel_rfl) (by kernel_rfl) (fun _ _ _ h => h) (by rfl) (fun w hSw => by (try dsimp only at hSw); go_simp; try rfl) hHeld ?_
    go_frame
    refine takeL (i := 4) [11, 14] (some 22) (by rfl) rfl rfl (by kernel_rfl) (by kernel_rfl) (by kernel_rfl) (by kernel_rfl) (fun _ _ _ h => h) (by rfl) (fun w hSw => by (try dsimp only at hSw); (subst hSw; go_simp; try rfl)) hHeld ?_
    go_frame
    refine takeL (i := 5) [6, 7, 8, 10, 11, 14] (some 23) (by rfl) rfl rfl (by kernel_rfl) (by kernel_rfl) (by kernel_rfl) (by kernel_rfl) (fun _ _ _ h => h) (by rfl) (fun w hSw => by (try dsimp only at hSw); go_simp; try rfl) hHeld ?_
    go_frame
    refine takeL (i := 6) [7, 8, 10, 11, 14] (some 24) (by rfl) rfl rfl (by kernel_rfl) (by kernel_rfl) (by kernel_rfl) (by kernel_rfl) (fun _ _ _ h => h) (by rfl) (fun w hSw => by (try dsimp only at hSw); go_simp; try rfl) hHeld ?_
    go_frame
    refine takeL (i := 7) [8, 10, 11, 14] (some 25) (by rfl) rfl rfl (by kernel_rfl) (by kernel_rfl) (by kernel_rfl) (by kernel_rfl) (fun _ _ _ h => h) (by rfl) (fun w hSw => by (try dsimp only at hSw); go_simp; try rfl) hHeld ?_
    go_frame
    refine takeL (i := 8) [10, 11, 14] (some 26) (by rfl) rfl rfl (by kernel_rfl) (by kernel_rfl) (by kernel_rfl) (by kernel_rfl) (fun _ _ _ h => h) (by rfl) (fun w hSw => by (try dsimp only at hSw); (subst hSw; go_simp; try rfl)) hHeld ?_
    go_frame
    refine takeL (i := 9) [10, 11, 14] (some 27) (by rfl) rfl rfl (by kernel_rfl) (by kernel_rfl) (by kernel_rfl) (by kernel_rfl) (fun _ _ _ h => h) (by rfl) (fun w hSw => by (try dsimp only at hSw); go_simp; try rfl) hHeld ?_
    go_frame
    refine takeL (i := 10) [11, 14] (some 28) (by rfl) rfl rfl (by kernel_rfl) (by kernel_rfl) (by kernel_rfl) (by kernel_rfl) (fun _ _ _ h => h) (by rfl) (fun w hSw => by (try dsimp only at hSw); exact ss_run (l := S.l.drop S.sure) (j := M) rfl rfl rfl (by have := HE.out; omega) HML.out) hHeld ?_
    go_frame
    refine takeL (i := 11) [14] (some 29) (by rfl) rfl rfl (by kernel_rfl) (by kernel_rfl) (by kernel_rfl) (by kernel_rfl) (fun _ _ _ h => h) (by rfl) (fun w hSw => by (try dsimp only at hSw); (refine (?_ : _ = Result.ok (Next.value (.string (strB (S.l.take (S.sure + M))))) _); go_simp; rw [if_neg (by rw [strB_len, strB_len, List.length_take, List.length_take, List.length_drop]; omega), strB_app, ← List.take_add])) hHeld ?_
    go_frame
    refine takeL (i := 12) [13, 14] (some 30) (by rfl) rfl rfl (by kernel_rfl) (by kernel_rfl) (by kernel_rfl) (by kernel_rfl) (fun _ _ _ h => h) (by rfl) (fun w hSw => by (try dsimp only at hSw); go_simp; try rfl) hHeld ?_
    go_frame
    refine takeL (i := 13) [14] (some 31) (by rfl) rfl rfl (by kernel_rfl) (by kernel_rfl) (by kernel_rfl) (by kernel_rfl) (fun _ _ _ h => h) (by rfl) (fun w hSw => by (try dsimp only at hSw); go_simp; try rfl) hHeld ?_
    go_frame
    refine anyL_ready (rs := [14]) (by kernel_rfl) (by simp) (AllL.last rfl (by kernel_rfl) (fun K hK => ?_))
    go_simp
    refine hK.out _ _ ?_
    clear hK K
    refine anyL_done (by kernel_rfl) ?_
    have hB6 := hB'.set 0 (.string (strB (S.l.take (S.sure + M))))
    have k6 := chg_set V r 0 (.string (strB (S.l.take (S.sure + M))))
    clear c0 c1 f0 hHeld
    generalize V.setCell ⟨r, 0, none⟩ (.string (strB (S.l.take (S.sure + M)))) = V6 at *
    have d1 := hB6.at (i := 1) rfl
    have d3 := hB6.at (i := 3) rfl
    have d4 := hB6.at (i := 4) rfl
    have d7 := hB6.at (i := 7) rfl
    have f1 := hB6.frozen 1
    have f3 := hB6.frozen 3
    have f4 := hB6.frozen 4
    have f7 := hB6.frozen 7
    go_wp2_with fail
    go_end0
    refine ⟨rfl, ?_, (((((kd.trans k6).trans (chg_set _ _ _ _)).trans (chg_set _ _ _ _)).trans (chg_set _ _ _ _)).trans (chg_set _ _ _ _))⟩
    rw [HS.out]
    refine ⟨false, lf, un, ?_, (fun _ => rfl), (fun _ h => by cases h), (fun h => by cases h)⟩
    have e := crs_eq S ar lf un (S.sure + M) (by omega)
    rw [← e]
    exact (((hB6.set 1 _).set 3 _).set 4 _).set 7 _
  · by_cases hbig : (a : Int) < k
    · have HE : Hid (M = a) := by show _ = _; omega
      go_upto_region 4 with fail
      have hB' : Blk w.drew r (rcs S ar lf un) 31 := hB
      have kd := chg_drew r w
      refine region_L 14 (S := fun w' => w' = w.drew) (by kernel_rfl) rfl (fun hHeld => ?_)
      clear c1
      generalize w.drew = V at *
      have c0 := (octR hB').c0
      have c1 := (octR hB').c1
      have f0 := hB'.frozen 0
      refine takeL (i := 0) [12, 13, 14] (some 18) (by rfl) rfl rfl (by kernel_rfl) (by kernel_rfl) (by kernel_rfl) (by kernel_rfl) (fun _ _ _ h => h) (by rfl) (fun w hSw => by (try dsimp only at hSw); go_simp; try rfl) hHeld ?_
      go_frame
      refine takeL (i := 1) [2, 3, 4, 11, 14] (some 19) (by rfl) rfl rfl (by kernel_rfl) (by kernel_rfl) (by kernel_rfl) (by kernel_rfl) (fun _ _ _ h => h) (by rfl) (fun w hSw => by (try dsimp only at hSw); go_simp; try rfl) hHeld ?_
      go_frame
      refine takeL (i := 2) [3, 4, 11, 14] (some 20) (by rfl) rfl rfl (by kernel_rfl) (by kernel_rfl) (by kernel_rfl) (by kernel_rfl) (fun _ _ _ h => h) (by rfl) (fun w hSw => by (try dsimp only at hSw); go_simp; try rfl) hHeld ?_
      go_frame
      refine takeL (i := 3) [4, 11, 14] (some 21) (by rfl) rfl rfl (by kernel_rfl) (by kernel_rfl) (by kernel_rfl) (by kernel_rfl) (fun _ _ _ h => h) (by rfl) (fun w hSw => by (try dsimp only at hSw); go_simp; try rfl) hHeld ?_
      go_frame
      refine takeL (i := 4) [11, 14] (some 22) (by rfl) rfl rfl (by kernel_rfl) (by kernel_rfl) (by kernel_rfl) (by kernel_rfl) (fun _ _ _ h => h) (by rfl) (fun w hSw => by (try dsimp only at hSw); (subst hSw; go_simp; try rfl)) hHeld ?_
      go_frame
      refine takeL (i := 5) [6, 7, 8, 10, 11, 14] (some 23) (by rfl) rfl rfl (by kernel_rfl) (by kernel_rfl) (by kernel_rfl) (by kernel_rfl) (fun _ _ _ h => h) (by rfl) (fun w hSw => by (try dsimp only at hSw); go_simp; try rfl) hHeld ?_
      go_frame
      refine takeL (i := 6) [7, 8, 10, 11, 14] (some 24) (by rfl) rfl rfl (by kernel_rfl) (by kernel_rfl) (by kernel_rfl) (by kernel_rfl) (fun _ _ _ h => h) (by rfl) (fun w hSw => by (try dsimp only at hSw); go_simp; try rfl) hHeld ?_
      go_frame
      refine takeL (i := 7) [8, 10, 11, 14] (some 25) (by rfl) rfl rfl (by kernel_rfl) (by kernel_rfl) (by kernel_rfl) (by kernel_rfl) (fun _ _ _ h => h) (by rfl) (fun w hSw => by (try dsimp only at hSw); go_simp; try rfl) hHeld ?_
      go_frame
      refine takeL (i := 8) [10, 11, 14] (some 26) (by rfl) rfl rfl (by kernel_rfl) (by kernel_rfl) (by kernel_rfl) (by kernel_rfl) (fun _ _ _ h => h) (by rfl) (fun w hSw => by (try dsimp only at hSw); (subst hSw; go_simp; try rfl)) hHeld ?_
      go_frame
      refine takeL (i := 9) [10, 11, 14] (some 27) (by rfl) rfl rfl (by kernel_rfl) (by kernel_rfl) (by kernel_rfl) (by kernel_rfl) (fun _ _ _ h => h) (by rfl) (fun w hSw => by (try dsimp only at hSw); go_simp; try rfl) hHeld ?_
      go_frame
      refine takeL (i := 10) [11, 14] (some 28) (by rfl) rfl rfl (by kernel_rfl) (by kernel_rfl) (by kernel_rfl) (by kernel_rfl) (fun _ _ _ h => h) (by rfl) (fun w hSw => by (try dsimp only at hSw); exact ss_run (l := S.l.drop S.sure) (j := M) rfl rfl rfl (by have := HE.out; omega) HML.out) hHeld ?_
      go_frame
      refine takeL (i := 11) [14] (some 29) (by rfl) rfl rfl (by kernel_rfl) (by kernel_rfl) (by kernel_rfl) (by kernel_rfl) (fun _ _ _ h => h) (by rfl) (fun w hSw => by (try dsimp only at hSw); (refine (?_ : _ = Result.ok (Next.value (.string (strB (S.l.take (S.sure + M))))) _); go_simp; rw [if_neg (by rw [strB_len, strB_len, List.length_take, List.length_take, List.length_drop]; omega), strB_app, ← List.take_add])) hHeld ?_
      go_frame
      refine takeL (i := 12) [13, 14] (some 30) (by rfl) rfl rfl (by kernel_rfl) (by kernel_rfl) (by kernel_rfl) (by kernel_rfl) (fun _ _ _ h => h) (by rfl) (fun w hSw => by (try dsimp only at hSw); go_simp; try rfl) hHeld ?_
      go_frame
      refine takeL (i := 13) [14] (some 31) (by rfl) rfl rfl (by kernel_rfl) (by kernel_rfl) (by kernel_rfl) (by kernel_rfl) (fun _ _ _ h => h) (by rfl) (fun w hSw => by (try dsimp only at hSw); go_simp; try rfl) hHeld ?_
      go_frame
      refine anyL_ready (rs := [14]) (by kernel_rfl) (by simp) (AllL.last rfl (by kernel_rfl) (fun K hK => ?_))
      go_simp
      refine hK.out _ _ ?_
      clear hK K
      refine anyL_done (by kernel_rfl) ?_
      have hB6 := hB'.set 0 (.string (strB (S.l.take (S.sure + M))))
      have k6 := chg_set V r 0 (.string (strB (S.l.take (S.sure + M))))
      clear c0 c1 f0 hHeld
      generalize V.setCell ⟨r, 0, none⟩ (.string (strB (S.l.take (S.sure + M)))) = V6 at *
      have d1 := hB6.at (i := 1) rfl
      have d3 := hB6.at (i := 3) rfl
      have d4 := hB6.at (i := 4) rfl
      have d7 := hB6.at (i := 7) rfl
      have f1 := hB6.frozen 1
      have f3 := hB6.frozen 3
      have f4 := hB6.frozen 4
      have f7 := hB6.frozen 7
      go_wp2_with fail
      go_end0
      refine ⟨rfl, ?_, (((((kd.trans k6).trans (chg_set _ _ _ _)).trans (chg_set _ _ _ _)).trans (chg_set _ _ _ _)).trans (chg_set _ _ _ _))⟩
      rw [HS.out]
      refine ⟨false, lf, un, ?_, (fun _ => rfl), (fun _ h => by cases h), (fun h => by cases h)⟩
      have e := crs_eq S ar lf un (S.sure + M) (by omega)
      rw [← e]
      exact (((hB6.set 1 _).set 3 _).set 4 _).set 7 _
    · have hMk : k = ((M : Nat) : Int) := by omega
      subst hMk
      go_upto_region 4 with fail
      have hB' : Blk w.drew r (rcs S ar lf un) 31 := hB
      have kd := chg_drew r w
      refine region_L 14 (S := fun w' => w' = w.drew) (by kernel_rfl) rfl (fun hHeld => ?_)
      clear c1
      generalize w.drew = V at *
      have c0 := (octR hB').c0
      have c1 := (octR hB').c1
      have f0 := hB'.frozen 0
      refine takeL (i := 0) [12, 13, 14] (some 18) (by rfl) rfl rfl (by kernel_rfl) (by kernel_rfl) (by kernel_rfl) (by kernel_rfl) (fun _ _ _ h => h) (by rfl) (fun w hSw => by (try dsimp only at hSw); go_simp; try rfl) hHeld ?_
      go_frame
      refine takeL (i := 1) [2, 3, 4, 11, 14] (some 19) (by rfl) rfl rfl (by kernel_rfl) (by kernel_rfl) (by kernel_rfl) (by kernel_rfl) (fun _ _ _ h => h) (by rfl) (fun w hSw => by (try dsimp only at hSw); go_simp; try rfl) hHeld ?_
      go_frame
      refine takeL (i := 2) [3, 4, 11, 14] (some 20) (by rfl) rfl rfl (by kernel_rfl) (by kernel_rfl) (by kernel_rfl) (by kernel_rfl) (fun _ _ _ h => h) (by rfl) (fun w hSw => by (try dsimp only at hSw); go_simp; try rfl) hHeld ?_
      go_frame
      refine takeL (i := 3) [4, 11, 14] (some 21) (by rfl) rfl rfl (by kernel_rfl) (by kernel_rfl) (by kernel_rfl) (by kernel_rfl) (fun _ _ _ h => h) (by rfl) (fun w hSw => by (try dsimp only at hSw); go_simp; try rfl) hHeld ?_
      go_frame
      refine takeL (i := 4) [11, 14] (some 22) (by rfl) rfl rfl (by kernel_rfl) (by kernel_rfl) (by kernel_rfl) (by kernel_rfl) (fun _ _ _ h => h) (by rfl) (fun w hSw => by (try dsimp only at hSw); (subst hSw; go_simp; try rfl)) hHeld ?_
      go_frame
      refine takeL (i := 5) [6, 7, 8, 10, 11, 14] (some 23) (by rfl) rfl rfl (by kernel_rfl) (by kernel_rfl) (by kernel_rfl) (by kernel_rfl) (fun _ _ _ h => h) (by rfl) (fun w hSw => by (try dsimp only at hSw); go_simp; try rfl) hHeld ?_
      go_frame
      refine takeL (i := 6) [7, 8, 10, 11, 14] (some 24) (by rfl) rfl rfl (by kernel_rfl) (by kernel_rfl) (by kernel_rfl) (by kernel_rfl) (fun _ _ _ h => h) (by rfl) (fun w hSw => by (try dsimp only at hSw); go_simp; try rfl) hHeld ?_
      go_frame
      refine takeL (i := 7) [8, 10, 11, 14] (some 25) (by rfl) rfl rfl (by kernel_rfl) (by kernel_rfl) (by kernel_rfl) (by kernel_rfl) (fun _ _ _ h => h) (by rfl) (fun w hSw => by (try dsimp only at hSw); go_simp; try rfl) hHeld ?_
      go_frame
      refine takeL (i := 8) [10, 11, 14] (some 26) (by rfl) rfl rfl (by kernel_rfl) (by kernel_rfl) (by kernel_rfl) (by kernel_rfl) (fun _ _ _ h => h) (by rfl) (fun w hSw => by (try dsimp only at hSw); (subst hSw; go_simp; try rfl)) hHeld ?_
      go_frame
      refine takeL (i := 9) [10, 11, 14] (some 27) (by rfl) rfl rfl (by kernel_rfl) (by kernel_rfl) (by kernel_rfl) (by kernel_rfl) (fun _ _ _ h => h) (by rfl) (fun w hSw => by (try dsimp only at hSw); go_simp; try rfl) hHeld ?_
      go_frame
      refine takeL (i := 10) [11, 14] (some 28) (by rfl) rfl rfl (by kernel_rfl) (by kernel_rfl) (by kernel_rfl) (by kernel_rfl) (fun _ _ _ h => h) (by rfl) (fun w hSw => by (try dsimp only at hSw); exact ss_run (l := S.l.drop S.sure) (j := M) rfl rfl rfl rfl HML.out) hHeld ?_
      go_frame
      refine takeL (i := 11) [14] (some 29) (by rfl) rfl rfl (by kernel_rfl) (by kernel_rfl) (by kernel_rfl) (by kernel_rfl) (fun _ _ _ h => h) (by rfl) (fun w hSw => by (try dsimp only at hSw); (refine (?_ : _ = Result.ok (Next.value (.string (strB (S.l.take (S.sure + M))))) _); go_simp; rw [if_neg (by rw [strB_len, strB_len, List.length_take, List.length_take, List.length_drop]; omega), strB_app, ← List.take_add])) hHeld ?_
      go_frame
      refine takeL (i := 12) [13, 14] (some 30) (by rfl) rfl rfl (by kernel_rfl) (by kernel_rfl) (by kernel_rfl) (by kernel_rfl) (fun _ _ _ h => h) (by rfl) (fun w hSw => by (try dsimp only at hSw); go_simp; try rfl) hHeld ?_
      go_frame
      refine takeL (i := 13) [14] (some 31) (by rfl) rfl rfl (by kernel_rfl) (by kernel_rfl) (by kernel_rfl) (by kernel_rfl) (fun _ _ _ h => h) (by rfl) (fun w hSw => by (try dsimp only at hSw); go_simp; try rfl) hHeld ?_
      go_frame
      refine anyL_ready (rs := [14]) (by kernel_rfl) (by simp) (AllL.last rfl (by kernel_rfl) (fun K hK => ?_))
      go_simp
      refine hK.out _ _ ?_
      clear hK K
      refine anyL_done (by kernel_rfl) ?_
      have hB6 := hB'.set 0 (.string (strB (S.l.take (S.sure + M))))
      have k6 := chg_set V r 0 (.string (strB (S.l.take (S.sure + M))))
      clear c0 c1 f0 hHeld
      generalize V.setCell ⟨r, 0, none⟩ (.string (strB (S.l.take (S.sure + M)))) = V6 at *
      have d1 := hB6.at (i := 1) rfl
      have d3 := hB6.at (i := 3) rfl
      have d4 := hB6.at (i := 4) rfl
      have d7 := hB6.at (i := 7) rfl
      have f1 := hB6.frozen 1
      have f3 := hB6.frozen 3
      have f4 := hB6.frozen 4
      have f7 := hB6.frozen 7
      go_wp2_with fail
      go_end0
      refine ⟨rfl, ?_, (((((kd.trans k6).trans (chg_set _ _ _ _)).trans (chg_set _ _ _ _)).trans (chg_set _ _ _ _)).trans (chg_set _ _ _ _))⟩
      rw [HS.out]
      refine ⟨false, lf, un, ?_, (fun _ => rfl), (fun _ h => by cases h), (fun h => by cases h)⟩
      have e := crs_eq S ar lf un (S.sure + M) (by omega)
      rw [← e]
      exact (((hB6.set 1 _).set 3 _).set 4 _).set 7 _
end Go.Proofs.YteffpgodookebaaGreat
namespace Go.Proofs.YteffpgodookebaaGreat
set_option maxRecDepth 100000
open Go.RowKit
set_option linter.unusedVariables false

/-- Nothing but the tape's own memory and block r has turned. -/
structure Mw (b r : Nat) (w w' : World) (v v' : Value) : Prop where
  os : w'.os = w.os
  tape : w'.tape = w.tape
  output : w'.output = w.output
  size : w.heap.size ≤ w'.heap.size
  other : ∀ k, k < w.heap.size → k ≠ b → k ≠ r → v.ownBlock ≠ some k → w'.heap[k]? = w.heap[k]?
  next : ∀ x, v'.ownBlock = some x → v.ownBlock = some x ∨ w.heap.size ≤ x
theorem Mv.mw {b : Nat} {w w' : World} {v v' : Value} (h : Mv b w w' v v') (r : Nat) : Mw b r w w' v v' := ⟨h.os, h.tape, h.output, h.size, fun k hk hb _ hv => h.other k hk hb hv, h.next⟩
theorem Chg.mw {r : Nat} {w w' : World} (h : Chg r w w') (b : Nat) (v : Value) : Mw b r w w' v v := ⟨h.os, h.tape, h.output, Nat.le_of_eq h.size.symm, fun k _ _ hr _ => h.other k hr, fun _ h => .inl h⟩
theorem Mw.trans {b r : Nat} {w w' w'' : World} {v v' v'' : Value} (h : Mw b r w w' v v') (k : Mw b r w' w'' v' v'') : Mw b r w w'' v v'' :=
  ⟨k.os.trans h.os, k.tape.trans h.tape, k.output.trans h.output, Nat.le_trans h.size k.size,
   fun i hi hb hr hv => (k.other i (Nat.lt_of_lt_of_le hi h.size) hb hr (fun e => by
     rcases h.next i e with e | e
     · exact hv e
     · omega)).trans (h.other i hi hb hr hv),
   fun x hx => by
     rcases k.next x hx with e | e
     · exact h.next x e
     · exact .inr (Nat.le_trans h.size e)⟩
theorem Mw.below {A w w' : World} {b r : Nat} {v v' : Value} {S : TS} (h : Mw b r w w' v v') (hT : Tp w A.heap.size b v S) (hr : A.heap.size ≤ r) : Below A.heap.size w w' :=
  ⟨h.os, h.tape, h.output, h.size, fun k hk => h.other k (Nat.lt_trans hk hT.lt) (by have := hT.ge; omega) (by omega) (fun e => by have := (hT.own.lt k e).1; omega)⟩
theorem tp_two {w : World} {base b r : Nat} {v : Value} {S S' : TS} (hT : Tp w base b v S) (hR : Rf w r S') : r ≠ b ∧ v.ownBlock ≠ some r := by
  obtain ⟨ar, lf, un, hB, -⟩ := hR
  exact ⟨blk_ne hB hT.blk (by decide), blk_own hT.own hB (by decide)⟩
theorem Tp.chgO {W W' : World} {base b r : Nat} {v : Value} {S : TS} (h : Tp W base b v S) (hc : Chg r W W') (hb : b ≠ r) (ho : v.ownBlock ≠ some r) : Tp W' base b v S :=
  ⟨h.ge, h.blk.chg hc hb, own_chgT h.own hc ho, h.sure, h.max, h.bo, h.br⟩
theorem Rf.mv {W W' : World} {base b r : Nat} {v v' : Value} {S S' : TS} (h : Rf W r S) (hT : Tp W base b v S') (m : Mv b W W' v v') : Rf W' r S := by
  obtain ⟨h1, h2⟩ := tp_two hT h
  exact h.at (m.other r h.lt h1 h2)
theorem Rf.chgO {W W' : World} {r g : Nat} {S : TS} (h : Rf W r S) (hc : Chg g W W') (hn : r ≠ g) : Rf W' r S := h.at (hc.other r hn)
end Go.Proofs.YteffpgodookebaaGreat
