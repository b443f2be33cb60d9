/-
  What comes in, where a struct holds numbers and slices of them. Nothing here names the program.
-/
import Derived.Test.YtnooedipanhkjaaFlat
namespace Go.Proofs.Ytnooedipanhkjaa
set_option maxRecDepth 100000
open Go.ChangeShapes Go.WideShapes Go.ChangeAt Go.RowKit
set_option linter.unusedVariables false

section
variable {H : Type} {enc : TypeId × Value → H} {P : Program} {w : World} {base : Nat} {spare : Nat → Bool} {held : Bool}
/-- A struct that came in: its cells, and what each field reads as. -/
theorem open_struct {r : Reach} {b0 n : Nat} {t : TypeId} {fs : Array Field} {v : Value} {d : DataW H} {p : List MemPlace} (hu : P.underlying t = some (.struct fs)) (hC : P.cellsOf t = n)
    (hv : Value.okWide P w r b0 t v) (h : DataW.Trod enc P w base spare held t v d p) :
    ∃ cs : Array Value, v = .agg cs ∧ cs.size = n ∧ ∃ m, ∀ (i : Nat) (f : Field), fs[i]? = some f → ∃ x, DataW.trod enc P w base spare held m f.type ((cs.toList.drop f.offset).take (P.cellsOf f.type)) = some x := by
  obtain ⟨cs, rfl, hs⟩ : ∃ cs, v = .agg cs ∧ cs.size = P.cellsOf t := by
    simp only [Value.okWide, hu] at hv
    obtain ⟨cs, h1, h2, _⟩ := hv; exact ⟨cs, h1, h2⟩
  obtain ⟨fuel, hf⟩ := h
  obtain ⟨xs, m, _, _, _, hl, hx⟩ := DataW.trod_struct hu hf
  refine ⟨cs, rfl, hs.trans hC, m, fun i f hi => ?_⟩
  have := hx i f hi
  have hlt : i < xs.length := by rw [hl]; exact (Array.getElem?_eq_some_iff.1 hi).1
  rw [List.getElem?_eq_getElem hlt] at this
  exact ⟨_, by simpa [Value.cells] using this⟩
/-- A struct within a struct that came in: what each of its fields reads as. -/
theorem struct_in {fuel : Nat} {t : TypeId} {fs : Array Field} {cs : List Value} {x : DataW H × List MemPlace} (hu : P.underlying t = some (.struct fs)) (hf : DataW.trod enc P w base spare held fuel t cs = some x) :
    ∃ m, ∀ (i : Nat) (f : Field), fs[i]? = some f → ∃ x, DataW.trod enc P w base spare held m f.type ((cs.drop f.offset).take (P.cellsOf f.type)) = some x := by
  obtain ⟨xs, m, _, _, _, hl, hx⟩ := DataW.trod_struct hu hf
  refine ⟨m, fun i f hi => ?_⟩
  have := hx i f hi
  have hlt : i < xs.length := by rw [hl]; exact (Array.getElem?_eq_some_iff.1 hi).1
  rw [List.getElem?_eq_getElem hlt] at this
  exact ⟨_, by simpa using this⟩
/-- A slice among a struct's fields whose elements are made of integers alone. -/
theorem rows_of {n D fuel : Nat} {t e : TypeId} {cs : List Value} {x : DataW H × List MemPlace} (ks : Nat → IntKind) (ht : P.underlying t = some (.slice e)) (hC : P.cellsOf e = n) (hn : 0 < n) (hk : ∀ j, j < n → kindAt P D e j = some (ks j))
    (hf : DataW.trod enc P w base spare held fuel t cs = some x) :
    ∃ (q : Option Addr) (g off len cap : Nat) (l : List (Nat → Int)), cs = [.slice q len cap] ∧ l.length = len ∧ len ≤ cap ∧ cap ≤ maxLen ∧ (0 < len → q = some ⟨g, off, none⟩) ∧ (0 < len → g < w.heap.size) ∧
      ∀ j c, l[j]? = some c → ∀ i, i < n → w.cell? ⟨g, off + j * n + i, none⟩ = some (.int (ks i) (c i)) ∧ (Lit.int (ks i) (c i)).wf = true := by
  rcases Deep.open_slice ht hf with ⟨hcs, _⟩ | ⟨a', len, cap, m, n', D', Pl, hcs, hb, hl, hm, hmm, hx, hel⟩
  · exact ⟨none, 0, 0, 0, 0, [], hcs, rfl, by omega, by unfold maxLen; omega, fun h => absurd h (by omega), fun h => absurd h (by omega), fun j c hc => by simp at hc⟩
  · have hle : len ≤ m := by rw [hmm]; split <;> omega
    have hcell : ∀ j, j < len → ∃ c : Nat → Int, ∀ i, i < n → w.cell? ((a'.add (j * n)).add i) = some (.int (ks i) (c i)) ∧ (Lit.int (ks i) (c i)).wf = true := by
      intro j hj
      obtain ⟨cs', h1, h2⟩ := hel j (by omega)
      rw [hC] at h1
      obtain ⟨_, h3, h4⟩ := World.cells?_some h1
      have : ∀ i, i < n → ∃ v : Int, w.cell? ((a'.add (j * n)).add i) = some (.int (ks i) v) ∧ (Lit.int (ks i) v).wf = true := fun i hi => by
        obtain ⟨v, hv, hwf⟩ := flat_cell D n' e cs' _ i (ks i) h2 (hk i hi)
        exact ⟨v, (h4 i hi).trans hv, hwf⟩
      obtain ⟨c, hc⟩ := Deep.choose_lt this
      exact ⟨c, hc⟩
    obtain ⟨L, hL⟩ := Deep.choose_lt (α := Nat → Int) hcell
    refine ⟨some a', a'.block, a'.off, len, cap, (List.range len).map L, hcs, by simp, hl, hm, fun h0 => ?_, fun h0 => ?_, fun j c hc i hi => ?_⟩
    · have := spot_of_cell (hL 0 h0 0 hn).1
      rw [Nat.zero_mul] at this
      have h1 : a'.spot = none := by simpa [Addr.add] using this
      obtain ⟨b, o, s⟩ := a'; cases h1; rfl
    · have h1 := (hL 0 h0 0 hn).1
      have := World.block_lt_of_cell? w _ h1
      simpa [Addr.add] using this
    · have hj : j < len := by have := (List.getElem?_eq_some_iff.1 hc).1; simpa using this
      have hcj : c = L j := by simp [hj] at hc; exact hc.symm
      subst hcj
      have h0 := (hL 0 (by omega) 0 hn).1
      have hs : a'.spot = none := by have := spot_of_cell h0; simpa [Addr.add] using this
      have h1 := hL j hj i hi
      rw [add_plain _ hs, add_plain _ rfl] at h1
      exact h1
end
end Go.Proofs.Ytnooedipanhkjaa
