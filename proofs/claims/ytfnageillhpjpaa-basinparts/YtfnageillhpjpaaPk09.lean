/-
  What comes in, where a type is made of integers alone: every cell of it holds an integer of the kind that the type says. Nothing here names the program.
  What comes in, where a struct holds numbers and slices of them. Nothing here names the program.
-/
import Derived.ProofKit
import Derived.OpenShut
import Derived.ChangeOld
import Derived.Below
import Derived.Deep.Slices
import Derived.ChangeArms
import Derived.Deep.MidRow
namespace Go.Proofs.Ytfnageillhpjpaa
set_option maxRecDepth 100000
open Go.ChangeShapes Go.WideShapes Go.ChangeAt Go.RowKit
set_option linter.unusedVariables false

/-- The kind of the integer in a type's cell number j. -/
def kindAt (P : Program) : Nat → TypeId → Nat → Option IntKind
  | 0, _, _ => none
  | d + 1, t, j =>
    match P.underlying t with
    | some (.int k) => if j = 0 then some k else none
    | some (.struct fs) => fs.toList.findSome? fun f => if f.offset ≤ j ∧ j < f.offset + P.cellsOf f.type then kindAt P d f.type (j - f.offset) else none
    | some (.array n e) => if j / P.cellsOf e < n then kindAt P d e (j % P.cellsOf e) else none
    | _ => none

section
variable {H : Type} {enc : TypeId × Value → H} {P : Program} {w : World} {base : Nat} {spare : Nat → Bool} {held : Bool}

theorem mapM_get {α β : Type} {f : α → Option β} : ∀ {l : List α} {ys : List β}, l.mapM f = some ys → ∀ x ∈ l, ∃ y, f x = some y
  | [], _, _, x, hx => by cases hx
  | a :: l, ys, h, x, hx => by
    rw [List.mapM_cons] at h
    simp only [bind, Option.bind_eq_some_iff, pure, Option.some.injEq] at h
    obtain ⟨y, hy, zs, hz, _⟩ := h
    rcases List.mem_cons.1 hx with rfl | hx
    · exact ⟨y, hy⟩
    · exact mapM_get hz x hx

theorem drop_take_get {cs : List Value} {o c j : Nat} {v : Value} (h : ((cs.drop o).take c)[j - o]? = some v) (hj : o ≤ j) : cs[j]? = some v := by
  have hlt : j - o < ((cs.drop o).take c).length := (List.getElem?_eq_some_iff.1 h).1
  rw [List.getElem?_take_of_lt (by simp at hlt; omega), List.getElem?_drop, show o + (j - o) = j by omega] at h
  exact h

theorem flat_cell : ∀ (d : Nat) (fuel : Nat) (t : TypeId) (cs : List Value) (x : DataW H × List MemPlace) (j : Nat) (k : IntKind), DataW.trod enc P w base spare held fuel t cs = some x → kindAt P d t j = some k →
    ∃ v, cs[j]? = some (.int k v) ∧ (Lit.int k v).wf = true
  | 0, _, _, _, _, _, _, _, hk => by simp [kindAt] at hk
  | d + 1, fuel, t, cs, x, j, k, h, hk => by
    unfold kindAt at hk
    split at hk
    · rename_i k' hu
      split at hk
      · rename_i hj
        subst hj
        cases hk
        cases fuel with
        | zero => simp [DataW.trod] at h
        | succ fuel =>
          unfold DataW.trod at h
          rw [hu] at h
          split at h <;> simp_all
      · cases hk
    · rename_i fs hu
      obtain ⟨f, hf, hk⟩ := List.exists_of_findSome?_eq_some hk
      split at hk
      · rename_i hr
        obtain ⟨xs, n, _, _, _, hxl, hx⟩ := DataW.trod_struct hu h
        obtain ⟨i, hi, hfi⟩ := List.mem_iff_getElem.1 hf
        have hi' : i < fs.size := by simpa using hi
        have hg : fs[i]? = some f := by rw [Array.getElem?_eq_getElem hi']; simpa using hfi
        have := hx i f hg
        rw [List.getElem?_eq_getElem (by omega)] at this
        obtain ⟨v, hv, hwf⟩ := flat_cell d n f.type _ _ (j - f.offset) k this hk
        exact ⟨v, drop_take_get hv hr.1, hwf⟩
      · cases hk
    · rename_i n e hu
      split at hk
      · rename_i hr
        obtain ⟨xs, m, _, _, _, hxl, hx⟩ := DataW.trod_array hu h
        have := hx (j / P.cellsOf e) hr
        rw [List.getElem?_eq_getElem (by omega)] at this
        obtain ⟨v, hv, hwf⟩ := flat_cell d m e _ _ (j % P.cellsOf e) k this hk
        have e1 := Nat.div_add_mod j (P.cellsOf e)
        refine ⟨v, drop_take_get (o := j / P.cellsOf e * P.cellsOf e) (c := P.cellsOf e) ?_ (by rw [Nat.mul_comm]; omega), hwf⟩
        rw [show j - j / P.cellsOf e * P.cellsOf e = j % P.cellsOf e by rw [Nat.mul_comm]; omega]
        exact hv
      · cases hk
    · cases hk

/-- A struct or an array of integers alone that came in. -/
theorem open_flat {r : Reach} {b0 n D : Nat} {t : TypeId} {td : TypeDesc} {v : Value} {d : DataW H} {p : List MemPlace} (ks : Nat → IntKind) (hu : P.underlying t = some td) (hd : td.isRow = true) (hC : P.cellsOf t = n) (hk : ∀ j, j < n → kindAt P D t j = some (ks j))
    (hv : Value.okWide P w r b0 t v) (h : DataW.Trod enc P w base spare held t v d p) :
    ∃ c : Nat → Int, v = .agg ((List.range n).map fun j => Value.int (ks j) (c j)).toArray ∧ ∀ j, j < n → (Lit.int (ks j) (c j)).wf = true := by
  obtain ⟨cs, rfl, hs⟩ : ∃ cs, v = .agg cs ∧ cs.size = P.cellsOf t := by
    simp only [Value.okWide, hu] at hv
    cases td <;> simp_all [TypeDesc.isRow]
    all_goals (obtain ⟨cs, h1, h2, _⟩ := hv; exact ⟨cs, h1, h2⟩)
  obtain ⟨fuel, hf⟩ := h
  have hall : ∀ j, j < n → ∃ v : Int, cs[j]? = some (.int (ks j) v) ∧ (Lit.int (ks j) v).wf = true := fun j hj => by
    obtain ⟨v, hv, hwf⟩ := flat_cell D fuel t _ _ j (ks j) hf (hk j hj)
    exact ⟨v, by simpa [Value.cells] using hv, hwf⟩
  obtain ⟨c, hc⟩ := Deep.choose_lt hall
  refine ⟨c, ?_, fun j hj => (hc j hj).2⟩
  congr 1
  apply Array.ext_getElem?
  intro j
  by_cases hj : j < n
  · rw [(hc j hj).1]; simp [hj]
  · rw [Array.getElem?_eq_none (by omega), Array.getElem?_eq_none (by simp; omega)]

theorem add_plain (a : Addr) (h : a.spot = none) (i : Nat) : a.add i = ⟨a.block, a.off + i, none⟩ := by
  obtain ⟨b, o, s⟩ := a
  cases h
  unfold Addr.add
  split <;> simp_all

theorem spot_of_cell {a : Addr} {v : Value} (h : w.cell? a = some v) : a.spot = none := by
  unfold World.cell? at h
  split at h
  · split at h
    · cases h
    · rename_i hs; simpa using hs
  · cases h

/-- A slice whose elements are made of integers alone. -/
theorem open_rows {r : Reach} {b0 n D : Nat} {t e : TypeId} {v : Value} {d : DataW H} {p : List MemPlace} (ks : Nat → IntKind) (ht : P.underlying t = some (.slice e)) (hC : P.cellsOf e = n) (hn : 0 < n) (hk : ∀ j, j < n → kindAt P D e j = some (ks j))
    (hv : Value.okWide P w r b0 t v) (h : DataW.Trod enc P w base spare held t v d p) :
    ∃ (q : Option Addr) (g off len cap : Nat) (l : List (Nat → Int)), v = .slice q len cap ∧ l.length = len ∧ len ≤ cap ∧ cap ≤ maxLen ∧ (0 < len → q = some ⟨g, off, none⟩) ∧ (0 < len → g < w.heap.size) ∧
      ∀ j c, l[j]? = some c → ∀ i, i < n → w.cell? ⟨g, off + j * n + i, none⟩ = some (.int (ks i) (c i)) ∧ (Lit.int (ks i) (c i)).wf = true := by
  obtain ⟨a, len, cap, rfl⟩ := okWide_slice ht hv
  obtain ⟨fuel, hf⟩ := h
  rcases Deep.open_slice ht hf with ⟨hcs, _⟩ | ⟨a', len', cap', m, n', D', Pl, hcs, hb, hl, hm, hmm, hx, hel⟩
  · have e1 : (Value.slice a len cap) = .slice none 0 0 := by simpa [Value.cells] using hcs
    cases e1
    exact ⟨none, 0, 0, 0, 0, [], rfl, rfl, by omega, by unfold maxLen; omega, fun h => absurd h (by omega), fun h => absurd h (by omega), fun j c hc => by simp at hc⟩
  · have e1 : (Value.slice a len cap) = .slice (some a') len' cap' := by simpa [Value.cells] using hcs
    cases e1
    have hle : len ≤ m := by rw [hmm]; split <;> omega
    have hcell : ∀ j, j < len → ∃ c : Nat → Int, ∀ i, i < n → w.cell? ((a'.add (j * n)).add i) = some (.int (ks i) (c i)) ∧ (Lit.int (ks i) (c i)).wf = true := by
      intro j hj
      obtain ⟨cs', h1, h2⟩ := hel j (by omega)
      rw [hC] at h1
      obtain ⟨_, h3, h4⟩ := World.cells?_some h1
      have : ∀ i, i < n → ∃ v : Int, w.cell? ((a'.add (j * n)).add i) = some (.int (ks i) v) ∧ (Lit.int (ks i) v).wf = true := fun i hi => by
        obtain ⟨v, hv, hwf⟩ := flat_cell D n' e cs' _ i (ks i) h2 (hk i hi)
        exact ⟨v, (h4 i hi).trans hv, hwf⟩
      obtain ⟨c, hc⟩ := Deep.choose_lt this
      exact ⟨c, hc⟩
    obtain ⟨L, hL⟩ := Deep.choose_lt (α := Nat → Int) hcell
    refine ⟨some a', a'.block, a'.off, len, cap, (List.range len).map L, rfl, by simp, hl, hm, fun h0 => ?_, fun h0 => ?_, fun j c hc i hi => ?_⟩
    · have := spot_of_cell (hL 0 h0 0 hn).1
      rw [Nat.zero_mul] at this
      have h1 : a'.spot = none := by simpa [Addr.add] using this
      obtain ⟨b, o, s⟩ := a'; cases h1; rfl
    · have h1 := (hL 0 h0 0 hn).1
      have := World.block_lt_of_cell? w _ h1
      simpa [Addr.add] using this
    · have hj : j < len := by have := (List.getElem?_eq_some_iff.1 hc).1; simpa using this
      have hcj : c = L j := by simp [hj] at hc; exact hc.symm
      subst hcj
      have h0 := (hL 0 (by omega) 0 hn).1
      have hs : a'.spot = none := by have := spot_of_cell h0; simpa [Addr.add] using this
      have h1 := hL j hj i hi
      rw [add_plain _ hs, add_plain _ rfl] at h1
      exact h1
theorem kinds_of {n D : Nat} {t : TypeId} {ks : Nat → IntKind} (h : (List.range n).map (kindAt P D t) = (List.range n).map fun j => some (ks j)) : ∀ j, j < n → kindAt P D t j = some (ks j) := fun j hj => by
  have := congrArg (·[j]?) h
  simpa [hj] using this
end
end Go.Proofs.Ytfnageillhpjpaa
namespace Go.Proofs.Ytfnageillhpjpaa
set_option maxRecDepth 100000
open Go.ChangeShapes Go.WideShapes Go.ChangeAt Go.RowKit
set_option linter.unusedVariables false

section
variable {H : Type} {enc : TypeId × Value → H} {P : Program} {w : World} {base : Nat} {spare : Nat → Bool} {held : Bool}
/-- A struct that came in: its cells, and what each field reads as. -/
theorem open_struct {r : Reach} {b0 n : Nat} {t : TypeId} {fs : Array Field} {v : Value} {d : DataW H} {p : List MemPlace} (hu : P.underlying t = some (.struct fs)) (hC : P.cellsOf t = n)
    (hv : Value.okWide P w r b0 t v) (h : DataW.Trod enc P w base spare held t v d p) :
    ∃ cs : Array Value, v = .agg cs ∧ cs.size = n ∧ ∃ m, ∀ (i : Nat) (f : Field), fs[i]? = some f → ∃ x, DataW.trod enc P w base spare held m f.type ((cs.toList.drop f.offset).take (P.cellsOf f.type)) = some x := by
  obtain ⟨cs, rfl, hs⟩ : ∃ cs, v = .agg cs ∧ cs.size = P.cellsOf t := by
    simp only [Value.okWide, hu] at hv
    obtain ⟨cs, h1, h2, _⟩ := hv; exact ⟨cs, h1, h2⟩
  obtain ⟨fuel, hf⟩ := h
  obtain ⟨xs, m, _, _, _, hl, hx⟩ := DataW.trod_struct hu hf
  refine ⟨cs, rfl, hs.trans hC, m, fun i f hi => ?_⟩
  have := hx i f hi
  have hlt : i < xs.length := by rw [hl]; exact (Array.getElem?_eq_some_iff.1 hi).1
  rw [List.getElem?_eq_getElem hlt] at this
  exact ⟨_, by simpa [Value.cells] using this⟩
/-- A struct within a struct that came in: what each of its fields reads as. -/
theorem struct_in {fuel : Nat} {t : TypeId} {fs : Array Field} {cs : List Value} {x : DataW H × List MemPlace} (hu : P.underlying t = some (.struct fs)) (hf : DataW.trod enc P w base spare held fuel t cs = some x) :
    ∃ m, ∀ (i : Nat) (f : Field), fs[i]? = some f → ∃ x, DataW.trod enc P w base spare held m f.type ((cs.drop f.offset).take (P.cellsOf f.type)) = some x := by
  obtain ⟨xs, m, _, _, _, hl, hx⟩ := DataW.trod_struct hu hf
  refine ⟨m, fun i f hi => ?_⟩
  have := hx i f hi
  have hlt : i < xs.length := by rw [hl]; exact (Array.getElem?_eq_some_iff.1 hi).1
  rw [List.getElem?_eq_getElem hlt] at this
  exact ⟨_, by simpa using this⟩
/-- A slice among a struct's fields whose elements are made of integers alone. -/
theorem rows_of {n D fuel : Nat} {t e : TypeId} {cs : List Value} {x : DataW H × List MemPlace} (ks : Nat → IntKind) (ht : P.underlying t = some (.slice e)) (hC : P.cellsOf e = n) (hn : 0 < n) (hk : ∀ j, j < n → kindAt P D e j = some (ks j))
    (hf : DataW.trod enc P w base spare held fuel t cs = some x) :
    ∃ (q : Option Addr) (g off len cap : Nat) (l : List (Nat → Int)), cs = [.slice q len cap] ∧ l.length = len ∧ len ≤ cap ∧ cap ≤ maxLen ∧ (0 < len → q = some ⟨g, off, none⟩) ∧ (0 < len → g < w.heap.size) ∧
      ∀ j c, l[j]? = some c → ∀ i, i < n → w.cell? ⟨g, off + j * n + i, none⟩ = some (.int (ks i) (c i)) ∧ (Lit.int (ks i) (c i)).wf = true := by
  rcases Deep.open_slice ht hf with ⟨hcs, _⟩ | ⟨a', len, cap, m, n', D', Pl, hcs, hb, hl, hm, hmm, hx, hel⟩
  · exact ⟨none, 0, 0, 0, 0, [], hcs, rfl, by omega, by unfold maxLen; omega, fun h => absurd h (by omega), fun h => absurd h (by omega), fun j c hc => by simp at hc⟩
  · have hle : len ≤ m := by rw [hmm]; split <;> omega
    have hcell : ∀ j, j < len → ∃ c : Nat → Int, ∀ i, i < n → w.cell? ((a'.add (j * n)).add i) = some (.int (ks i) (c i)) ∧ (Lit.int (ks i) (c i)).wf = true := by
      intro j hj
      obtain ⟨cs', h1, h2⟩ := hel j (by omega)
      rw [hC] at h1
      obtain ⟨_, h3, h4⟩ := World.cells?_some h1
      have : ∀ i, i < n → ∃ v : Int, w.cell? ((a'.add (j * n)).add i) = some (.int (ks i) v) ∧ (Lit.int (ks i) v).wf = true := fun i hi => by
        obtain ⟨v, hv, hwf⟩ := flat_cell D n' e cs' _ i (ks i) h2 (hk i hi)
        exact ⟨v, (h4 i hi).trans hv, hwf⟩
      obtain ⟨c, hc⟩ := Deep.choose_lt this
      exact ⟨c, hc⟩
    obtain ⟨L, hL⟩ := Deep.choose_lt (α := Nat → Int) hcell
    refine ⟨some a', a'.block, a'.off, len, cap, (List.range len).map L, hcs, by simp, hl, hm, fun h0 => ?_, fun h0 => ?_, fun j c hc i hi => ?_⟩
    · have := spot_of_cell (hL 0 h0 0 hn).1
      rw [Nat.zero_mul] at this
      have h1 : a'.spot = none := by simpa [Addr.add] using this
      obtain ⟨b, o, s⟩ := a'; cases h1; rfl
    · have h1 := (hL 0 h0 0 hn).1
      have := World.block_lt_of_cell? w _ h1
      simpa [Addr.add] using this
    · have hj : j < len := by have := (List.getElem?_eq_some_iff.1 hc).1; simpa using this
      have hcj : c = L j := by simp [hj] at hc; exact hc.symm
      subst hcj
      have h0 := (hL 0 (by omega) 0 hn).1
      have hs : a'.spot = none := by have := spot_of_cell h0; simpa [Addr.add] using this
      have h1 := hL j hj i hi
      rw [add_plain _ hs, add_plain _ rfl] at h1
      exact h1
end
end Go.Proofs.Ytfnageillhpjpaa
