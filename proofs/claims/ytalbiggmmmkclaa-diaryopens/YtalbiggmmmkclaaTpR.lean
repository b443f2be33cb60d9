/-
  The document's tape (estuaryref06): its cells; step.
-/
import Derived.Test.YtalbiggmmmkclaaTpH
namespace Go.Proofs.Ytalbiggmmmkclaa
open Go.RowKit
set_option linter.unusedVariables false

def rcs (S : TS) (ar : Bool) (lf un : Int) : Array Value := #[.string (strB (S.l.take S.sure)), .string (strB (S.l.drop S.sure)), .int .i64 ((S.steps : Nat) : Int), .bool ar, .bool S.rs, .int .i64 lf, .int .i64 un, .bool S.down]
/-- The document's tape at block r holds what the tape S holds. -/
def Rf (W : World) (r : Nat) (S : TS) : Prop := ∃ ar lf un, Blk W r (rcs S ar lf un) 29 ∧ (S.down = false → ar = S.os) ∧ (S.down = false → S.os = true → lf = ((S.oa : Nat) : Int)) ∧ (S.rs = true → un = ((S.ra : Nat) : Int))
theorem Rf.keep {W W' : World} {r : Nat} {S : TS} (h : Rf W r S) (hb : Below W.heap.size W W') : Rf W' r S := by
  obtain ⟨ar, lf, un, h1, h2⟩ := h
  exact ⟨ar, lf, un, h1.keep hb, h2⟩
theorem Rf.lt {W : World} {r : Nat} {S : TS} (h : Rf W r S) : r < W.heap.size := by
  obtain ⟨ar, lf, un, h1, h2⟩ := h
  exact h1.lt
theorem Rf.at {W W' : World} {r : Nat} {S : TS} (h : Rf W r S) (he : W'.heap[r]? = W.heap[r]?) : Rf W' r S := by
  obtain ⟨ar, lf, un, h1, h2⟩ := h
  exact ⟨ar, lf, un, by unfold Blk; rw [he]; exact h1, h2⟩
structure OctR (W : World) (r : Nat) (S : TS) (ar : Bool) (lf un : Int) : Prop where
  c0 : W.cell? ⟨r, 0, none⟩ = some (.string (strB (S.l.take S.sure)))
  c1 : W.cell? ⟨r, 1, none⟩ = some (.string (strB (S.l.drop S.sure)))
  c2 : W.cell? ⟨r, 2, none⟩ = some (.int .i64 ((S.steps : Nat) : Int))
  c3 : W.cell? ⟨r, 3, none⟩ = some (.bool ar)
  c4 : W.cell? ⟨r, 4, none⟩ = some (.bool S.rs)
  c5 : W.cell? ⟨r, 5, none⟩ = some (.int .i64 lf)
  c6 : W.cell? ⟨r, 6, none⟩ = some (.int .i64 un)
  c7 : W.cell? ⟨r, 7, none⟩ = some (.bool S.down)
theorem octR {W : World} {r : Nat} {S : TS} {ar : Bool} {lf un : Int} (h : Blk W r (rcs S ar lf un) 29) : OctR W r S ar lf un := ⟨h.at rfl, h.at rfl, h.at rfl, h.at rfl, h.at rfl, h.at rfl, h.at rfl, h.at rfl⟩
set_option maxHeartbeats 1000000 in
theorem rstep_any (r : Nat) (S : TS) (w : World) (h : Rf w r S) (hst : S.steps < 4611686018427387904) (hoa : S.oa ≤ 9223372036854775807) (hra : S.ra ≤ 9223372036854775807) :
    Calls Try.prog 53 #[tptr r] w fun e w' => e = .returned (.int .i64 ((stN S : Nat) : Int)) ∧ Rf w' r (stS S) ∧ Chg r w w' := by
  obtain ⟨l, sure, steps, os, oa, rs, ra, down⟩ := S
  obtain ⟨ar, lf, un, hB, har, hlf, hun⟩ := h
  dsimp only at hst hoa hra har hlf hun
  cases down with
  | true =>
    have c7 := (octR hB).c7
    dsimp only at c7
    go_enter Try.func53, Try.ntmps53
    go_wp2_with fail
    go_ret
    exact ⟨rfl, ⟨ar, lf, un, hB, har, hlf, hun⟩, Chg.refl _ _⟩
  | false =>
    obtain rfl := har rfl
    have c2 := (octR hB).c2
    have c3 := (octR hB).c3
    have c4 := (octR hB).c4
    have c5 := (octR hB).c5
    have c6 := (octR hB).c6
    have c7 := (octR hB).c7
    dsimp only at c2 c3 c4 c5 c6 c7
    have f2 := hB.frozen 2
    have f4 := hB.frozen 4
    have f5 := hB.frozen 5
    have f6 := hB.frozen 6
    have f7 := hB.frozen 7
    cases ar with
    | false =>
      cases rs with
      | false =>
        go_enter Try.func53, Try.ntmps53
        go_wp2_with fail
        go_ret
        exact ⟨rfl, ⟨false, lf, un, (hB.set 2 (.int .i64 ((steps + 1 : Nat) : Int))), (fun _ => rfl), (fun _ h => by cases h), (fun h => by cases h)⟩, chg_set _ _ _ _⟩
      | true =>
        obtain rfl := hun rfl
        cases ra with
        | zero =>
          have c6' : w.cell? ⟨r, 6, none⟩ = some (.int .i64 0) := c6
          clear c6
          go_enter Try.func53, Try.ntmps53
          go_wp2_with fail
          go_ret
          exact ⟨rfl, ⟨false, lf, ((0 : Nat) : Int), ((hB.set 2 (.int .i64 ((steps + 1 : Nat) : Int))).set 4 (.bool false)), (fun _ => rfl), (fun _ h => by cases h), (fun h => by cases h)⟩, (chg_set _ _ _ _).trans (chg_set _ _ _ _)⟩
        | succ n =>
          have h0 : (((n + 1 : Nat) : Int) == 0) = false := by simp; omega
          have h1 : ((n + 1 : Nat) : Int) - 1 = ((n : Nat) : Int) := by omega
          generalize ((n + 1 : Nat) : Int) = N at *
          have hN : N = n + 1 := by omega
          go_enter Try.func53, Try.ntmps53
          go_wp2_with fail
          go_ret
          exact ⟨rfl, ⟨false, lf, ((n : Nat) : Int), ((hB.set 2 (.int .i64 ((steps + 1 : Nat) : Int))).set 6 (.int .i64 ((n : Nat) : Int))), (fun _ => rfl), (fun _ h => by cases h), (fun _ => rfl)⟩, (chg_set _ _ _ _).trans (chg_set _ _ _ _)⟩
    | true =>
      obtain rfl := hlf rfl rfl
      cases oa with
      | zero =>
        have c5' : w.cell? ⟨r, 5, none⟩ = some (.int .i64 0) := c5
        clear c5
        go_enter Try.func53, Try.ntmps53
        go_wp2_with fail
        go_ret
        exact ⟨rfl, ⟨true, ((0 : Nat) : Int), un, hB.set 7 (.bool true), (fun h => by cases h), (fun h => by cases h), hun⟩, chg_set _ _ _ _⟩
      | succ m =>
        have g0 : (((m + 1 : Nat) : Int) == 0) = false := by simp; omega
        have g1 : ((m + 1 : Nat) : Int) - 1 = ((m : Nat) : Int) := by omega
        generalize hM' : ((m + 1 : Nat) : Int) = M at *
        have hM : M = m + 1 := by omega
        clear hM' hlf
        cases rs with
        | false =>
          go_enter Try.func53, Try.ntmps53
          go_wp2_with fail
          go_ret
          exact ⟨rfl, ⟨true, ((m : Nat) : Int), un, ((hB.set 5 (.int .i64 ((m : Nat) : Int))).set 2 (.int .i64 ((steps + 1 : Nat) : Int))), (fun _ => rfl), (fun _ _ => rfl), (fun h => by cases h)⟩, (chg_set _ _ _ _).trans (chg_set _ _ _ _)⟩
        | true =>
          obtain rfl := hun rfl
          cases ra with
          | zero =>
            have c6' : w.cell? ⟨r, 6, none⟩ = some (.int .i64 0) := c6
            clear c6
            go_enter Try.func53, Try.ntmps53
            go_wp2_with fail
            go_ret
            exact ⟨rfl, ⟨true, ((m : Nat) : Int), ((0 : Nat) : Int), (((hB.set 5 (.int .i64 ((m : Nat) : Int))).set 2 (.int .i64 ((steps + 1 : Nat) : Int))).set 4 (.bool false)), (fun _ => rfl), (fun _ _ => rfl), (fun h => by cases h)⟩, ((chg_set _ _ _ _).trans (chg_set _ _ _ _)).trans (chg_set _ _ _ _)⟩
          | succ n =>
            have h0 : (((n + 1 : Nat) : Int) == 0) = false := by simp; omega
            have h1 : ((n + 1 : Nat) : Int) - 1 = ((n : Nat) : Int) := by omega
            generalize ((n + 1 : Nat) : Int) = N at *
            have hN : N = n + 1 := by omega
            go_enter Try.func53, Try.ntmps53
            go_wp2_with fail
            go_ret
            exact ⟨rfl, ⟨true, ((m : Nat) : Int), ((n : Nat) : Int), (((hB.set 5 (.int .i64 ((m : Nat) : Int))).set 2 (.int .i64 ((steps + 1 : Nat) : Int))).set 6 (.int .i64 ((n : Nat) : Int))), (fun _ => rfl), (fun _ _ => rfl), (fun _ => rfl)⟩, ((chg_set _ _ _ _).trans (chg_set _ _ _ _)).trans (chg_set _ _ _ _)⟩
end Go.Proofs.Ytalbiggmmmkclaa
