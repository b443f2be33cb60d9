/-
  note.Decode of one frame.
-/
import Derived.Test.YtfnageillhpjpaaPk40
namespace Go.Proofs.Ytfnageillhpjpaa
set_option maxRecDepth 100000
open Go.RowKit Go.Shelf
set_option linter.unusedVariables false

theorem rd_one {W : World} {base : Nat} {l : List Int} {e : Ending} (h : RdP W base l e) : ∃ (ok : Bool) (k f t : Int) (q1 : Option Addr) (n1 c1 : Nat) (q2 : Option Addr) (n2 c2 : Nat) (q3 : Option Addr) (n3 c3 : Nat), e = .returned (.tuple #[.agg #[.int .i64 k, .int .i64 f, .int .i64 t, .slice q1 n1 c1, .slice q2 n2 c2, .slice q3 n3 c3], .bool ok]) ∧
    (ok = true → ∃ N : Nt, k = N.k ∧ f = N.f ∧ t = N.t ∧ numsN N = l ∧ WN N ∧ Io W base (.slice q1 n1 c1) N.ns ∧ SO 27 5 k64 W base (.slice q2 n2 c2) N.os ∧ SO 90 76 ek W base (.slice q3 n3 c3) N.es) ∧ (ok = false → NoN l) := by
  rcases h with ⟨N, vn, vo, ve, hN, hWN, h16, rfl, On, Oo, Oe⟩ | ⟨hno, k, f, t, q1, n1, c1, q2, n2, c2, q3, n3, c3, rfl⟩
  · obtain ⟨q1, c1, rfl⟩ := On.form
    obtain ⟨q2, c2, rfl⟩ := Oo.form (by omega)
    obtain ⟨q3, c3, rfl⟩ := Oe.form (by omega)
    exact ⟨true, _, _, _, _, _, _, _, _, _, _, _, _, rfl, fun _ => ⟨N, rfl, rfl, rfl, hN, hWN, On, Oo, Oe⟩, fun h => by cases h⟩
  · exact ⟨false, _, _, _, _, _, _, _, _, _, _, _, _, rfl, fun h => (by cases h), fun _ => hno⟩
end Go.Proofs.Ytfnageillhpjpaa
