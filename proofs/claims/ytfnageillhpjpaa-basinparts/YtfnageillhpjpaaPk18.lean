/-
  Rows of numbers in memory; estuarynum.Ints.
-/
import Derived.Test.YtfnageillhpjpaaRows
import Derived.Test.YtfnageillhpjpaaPk07
import Derived.Test.YtfnageillhpjpaaPk06
import Derived.Test.YtfnageillhpjpaaPk04
import Derived.WalkKit
import Derived.WalkSpells
import Derived.WalkLawsBesides
import Derived.Deep.QuietTactic
import Derived.BigQuiet
import Derived.Deep.CutRange
import Derived.Deep.RegionHeld3
import Derived.Test.YtfnageillhpjpaaPk10
namespace Go.Proofs.Ytfnageillhpjpaa
set_option maxRecDepth 100000
open Go.RowKit
set_option linter.unusedVariables false

/-- A row of numbers in memory. -/
def IRow (W : World) (g off : Nat) (l : List Int) : Prop := ∀ j x, l[j]? = some x → W.cell? ⟨g, off + j, none⟩ = some (.int .i64 x)
theorem irow_keep {W W' : World} {g off : Nat} {l : List Int} (h : IRow W g off l) (hg : 0 < l.length → g < W.heap.size) (hb : Below W.heap.size W W') : IRow W' g off l := by
  intro j x hx
  rw [hb.cell (p := ⟨g, _, none⟩) (hg (by have := (List.getElem?_eq_some_iff.1 hx).1; omega))]; exact h j x hx
theorem irow_drop {W : World} {g off : Nat} {l : List Int} (h : IRow W g off l) (k : Nat) : IRow W g (off + k) (l.drop k) := by
  intro j x hx
  rw [List.getElem?_drop] at hx
  have := h (k + j) x hx
  rwa [Nat.add_assoc]
theorem irow_take {W : World} {g off : Nat} {l : List Int} (h : IRow W g off l) (k : Nat) : IRow W g off (l.take k) := by
  intro j x hx
  have hj : j < k := by have := (List.getElem?_eq_some_iff.1 hx).1; simp at this; omega
  rw [List.getElem?_take_of_lt hj] at hx
  exact h j x hx
theorem list_same {l m : List Int} (hl : l.length = m.length) (h : ∀ j, j < l.length → l[j]? = m[j]?) : l = m := by
  apply List.ext_getElem?
  intro j
  by_cases c : j < l.length
  · exact h j c
  · rw [List.getElem?_eq_none (by omega), List.getElem?_eq_none (by omega)]

end Go.Proofs.Ytfnageillhpjpaa
