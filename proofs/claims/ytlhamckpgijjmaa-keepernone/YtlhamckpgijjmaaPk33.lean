/-
  The document's tape (estuaryref06): its cells; step.
  The document's tape: Append, Sync, Replace, Cut, Crash; estuarynum.Num of any error.
  The document's tape: Crash; estuarynum.Over.
-/
import Derived.Test.YtlhamckpgijjmaaPk32
namespace Go.Proofs.Ytlhamckpgijjmaa
open Go.RowKit
set_option linter.unusedVariables false

def rcs (S : TS) (ar : Bool) (lf un : Int) : Array Value := #[.string (strB (S.l.take S.sure)), .string (strB (S.l.drop S.sure)), .int .i64 ((S.steps : Nat) : Int), .bool ar, .bool S.rs, .int .i64 lf, .int .i64 un, .bool S.down]
structure OctR (W : World) (r : Nat) (S : TS) (ar : Bool) (lf un : Int) : Prop where
  c0 : W.cell? ⟨r, 0, none⟩ = some (.string (strB (S.l.take S.sure)))
  c1 : W.cell? ⟨r, 1, none⟩ = some (.string (strB (S.l.drop S.sure)))
  c2 : W.cell? ⟨r, 2, none⟩ = some (.int .i64 ((S.steps : Nat) : Int))
  c3 : W.cell? ⟨r, 3, none⟩ = some (.bool ar)
  c4 : W.cell? ⟨r, 4, none⟩ = some (.bool S.rs)
  c5 : W.cell? ⟨r, 5, none⟩ = some (.int .i64 lf)
  c6 : W.cell? ⟨r, 6, none⟩ = some (.int .i64 un)
  c7 : W.cell? ⟨r, 7, none⟩ = some (.bool S.down)
end Go.Proofs.Ytlhamckpgijjmaa
namespace Go.Proofs.Ytlhamckpgijjmaa
open Go.RowKit
set_option linter.unusedVariables false

theorem chg_drewN (b : Nat) (w : World) (n : Nat) : Chg b w (w.drewN n) := ⟨rfl, rfl, rfl, rfl, fun _ _ => rfl⟩
theorem chg_drew (b : Nat) (w : World) : Chg b w w.drew := ⟨rfl, rfl, rfl, rfl, fun _ _ => rfl⟩
theorem strB_nil : (⟨#[]⟩ : ByteArray) = strB [] := rfl
theorem rcs_eq (S S' : TS) (ar : Bool) (lf un : Int) (x y : List Nat) (hx : S'.l.take S'.sure = x) (hy : S'.l.drop S'.sure = y) (h2 : S'.steps = S.steps) (h4 : S'.rs = S.rs) (h7 : S'.down = S.down) :
    ((rcs S ar lf un).setIfInBounds 0 (.string (strB x))).setIfInBounds 1 (.string (strB y)) = rcs S' ar lf un := by
  unfold rcs; rw [hx, hy, h2, h4, h7]; rfl
theorem rcs_eq1 (S S' : TS) (ar : Bool) (lf un : Int) (y : List Nat) (hx : S'.l.take S'.sure = S.l.take S.sure) (hy : S'.l.drop S'.sure = y) (h2 : S'.steps = S.steps) (h4 : S'.rs = S.rs) (h7 : S'.down = S.down) :
    (rcs S ar lf un).setIfInBounds 1 (.string (strB y)) = rcs S' ar lf un := by
  unfold rcs; rw [hx, hy, h2, h4, h7]; rfl
end Go.Proofs.Ytlhamckpgijjmaa
namespace Go.Proofs.Ytlhamckpgijjmaa
open Go.RowKit
set_option linter.unusedVariables false

theorem crs_eq (S : TS) (ar : Bool) (lf un : Int) (j : Nat) (hj : j ≤ S.l.length) :
    (((((rcs S ar lf un).setIfInBounds 0 (.string (strB (S.l.take j)))).setIfInBounds 1 (.string ⟨#[]⟩)).setIfInBounds 3 (.bool false)).setIfInBounds 4 (.bool false)).setIfInBounds 7 (.bool false) = rcs ⟨S.l.take j, j, S.steps, false, 0, false, 0, false⟩ false lf un := by
  have h1 : (S.l.take j).take j = S.l.take j := by rw [List.take_take, Nat.min_self]
  have h2 : (S.l.take j).drop j = [] := List.drop_eq_nil_of_le (by rw [List.length_take]; omega)
  unfold rcs
  dsimp only
  rw [h1, h2]
  rfl
end Go.Proofs.Ytlhamckpgijjmaa
