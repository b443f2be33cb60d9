/-
  What comes in, where a type is made of integers alone: every cell of it holds an integer of the kind that the type says. Nothing here names the program.
  What comes in, where a struct holds numbers and slices of them. Nothing here names the program.
  What comes in: slices of bytes, of numbers, and of slices of bytes.
  Slices that are each its own; frame.Split, frame.Unwrap, frame.Nums.
-/
import Derived.ProofKit
import Derived.OpenShut
import Derived.ChangeOld
import Derived.Below
import Derived.Deep.Slices
import Derived.ChangeArms
import Derived.Deep.MidRow
import Derived.Test.YtalbiggmmmkclaaPk04
namespace Go.Proofs.Ytalbiggmmmkclaa
open Go.ChangeShapes Go.WideShapes Go.ChangeAt Go.RowKit
set_option linter.unusedVariables false

/-- The kind of the integer in a type's cell number j. -/
def kindAt (P : Program) : Nat → TypeId → Nat → Option IntKind
  | 0, _, _ => none
  | d + 1, t, j =>
    match P.underlying t with
    | some (.int k) => if j = 0 then some k else none
    | some (.struct fs) => fs.toList.findSome? fun f => if f.offset ≤ j ∧ j < f.offset + P.cellsOf f.type then kindAt P d f.type (j - f.offset) else none
    | some (.array n e) => if j / P.cellsOf e < n then kindAt P d e (j % P.cellsOf e) else none
    | _ => none

section
variable {H : Type} {enc : TypeId × Value → H} {P : Program} {w : World} {base : Nat} {spare : Nat → Bool} {held : Bool}

theorem mapM_get {α β : Type} {f : α → Option β} : ∀ {l : List α} {ys : List β}, l.mapM f = some ys → ∀ x ∈ l, ∃ y, f x = some y
  | [], _, _, x, hx => by cases hx
  | a :: l, ys, h, x, hx => by
    rw [List.mapM_cons] at h
    simp only [bind, Option.bind_eq_some_iff, pure, Option.some.injEq] at h
    obtain ⟨y, hy, zs, hz, _⟩ := h
    rcases List.mem_cons.1 hx with rfl | hx
    · exact ⟨y, hy⟩
    · exact mapM_get hz x hx

theorem drop_take_get {cs : List Value} {o c j : Nat} {v : Value} (h : ((cs.drop o).take c)[j - o]? = some v) (hj : o ≤ j) : cs[j]? = some v := by
  have hlt : j - o < ((cs.drop o).take c).length := (List.getElem?_eq_some_iff.1 h).1
  rw [List.getElem?_take_of_lt (by simp at hlt; omega), List.getElem?_drop, show o + (j - o) = j by omega] at h
  exact h

theorem flat_cell : ∀ (d : Nat) (fuel : Nat) (t : TypeId) (cs : List Value) (x : DataW H × List MemPlace) (j : Nat) (k : IntKind), DataW.trod enc P w base spare held fuel t cs = some x → kindAt P d t j = some k →
    ∃ v, cs[j]? = some (.int k v) ∧ (Lit.int k v).wf = true
  | 0, _, _, _, _, _, _, _, hk => by simp [kindAt] at hk
  | d + 1, fuel, t, cs, x, j, k, h, hk => by
    unfold kindAt at hk
    split at hk
    · rename_i k' hu
      split at hk
      · rename_i hj
        subst hj
        cases hk
        cases fuel with
        | zero => simp [DataW.trod] at h
        | succ fuel =>
          unfold DataW.trod at h
          rw [hu] at h
          split at h <;> simp_all
      · cases hk
    · rename_i fs hu
      obtain ⟨f, hf, hk⟩ := List.exists_of_findSome?_eq_some hk
      split at hk
      · rename_i hr
        obtain ⟨xs, n, _, _, _, hxl, hx⟩ := DataW.trod_struct hu h
        obtain ⟨i, hi, hfi⟩ := List.mem_iff_getElem.1 hf
        have hi' : i < fs.size := by simpa using hi
        have hg : fs[i]? = some f := by rw [Array.getElem?_eq_getElem hi']; simpa using hfi
        have := hx i f hg
        rw [List.getElem?_eq_getElem (by omega)] at this
        obtain ⟨v, hv, hwf⟩ := flat_cell d n f.type _ _ (j - f.offset) k this hk
        exact ⟨v, drop_take_get hv hr.1, hwf⟩
      · cases hk
    · rename_i n e hu
      split at hk
      · rename_i hr
        obtain ⟨xs, m, _, _, _, hxl, hx⟩ := DataW.trod_array hu h
        have := hx (j / P.cellsOf e) hr
        rw [List.getElem?_eq_getElem (by omega)] at this
        obtain ⟨v, hv, hwf⟩ := flat_cell d m e _ _ (j % P.cellsOf e) k this hk
        have e1 := Nat.div_add_mod j (P.cellsOf e)
        refine ⟨v, drop_take_get (o := j / P.cellsOf e * P.cellsOf e) (c := P.cellsOf e) ?_ (by rw [Nat.mul_comm]; omega), hwf⟩
        rw [show j - j / P.cellsOf e * P.cellsOf e = j % P.cellsOf e by rw [Nat.mul_comm]; omega]
        exact hv
      · cases hk
    · cases hk

/-- A struct or an array of integers alone that came in. -/
theorem open_flat {r : Reach} {b0 n D : Nat} {t : TypeId} {td : TypeDesc} {v : Value} {d : DataW H} {p : List MemPlace} (ks : Nat → IntKind) (hu : P.underlying t = some td) (hd : td.isRow = true) (hC : P.cellsOf t = n) (hk : ∀ j, j < n → kindAt P D t j = some (ks j))
    (hv : Value.okWide P w r b0 t v) (h : DataW.Trod enc P w base spare held t v d p) :
    ∃ c : Nat → Int, v = .agg ((List.range n).map fun j => Value.int (ks j) (c j)).toArray ∧ ∀ j, j < n → (Lit.int (ks j) (c j)).wf = true := by
  obtain ⟨cs, rfl, hs⟩ : ∃ cs, v = .agg cs ∧ cs.size = P.cellsOf t := by
    simp only [Value.okWide, hu] at hv
    cases td <;> simp_all [TypeDesc.isRow]
    all_goals (obtain ⟨cs, h1, h2, _⟩ := hv; exact ⟨cs, h1, h2⟩)
  obtain ⟨fuel, hf⟩ := h
  have hall : ∀ j, j < n → ∃ v : Int, cs[j]? = some (.int (ks j) v) ∧ (Lit.int (ks j) v).wf = true := fun j hj => by
    obtain ⟨v, hv, hwf⟩ := flat_cell D fuel t _ _ j (ks j) hf (hk j hj)
    exact ⟨v, by simpa [Value.cells] using hv, hwf⟩
  obtain ⟨c, hc⟩ := Deep.choose_lt hall
  refine ⟨c, ?_, fun j hj => (hc j hj).2⟩
  congr 1
  apply Array.ext_getElem?
  intro j
  by_cases hj : j < n
  · rw [(hc j hj).1]; simp [hj]
  · rw [Array.getElem?_eq_none (by omega), Array.getElem?_eq_none (by simp; omega)]

theorem add_plain (a : Addr) (h : a.spot = none) (i : Nat) : a.add i = ⟨a.block, a.off + i, none⟩ := by
  obtain ⟨b, o, s⟩ := a
  cases h
  unfold Addr.add
  split <;> simp_all

theorem spot_of_cell {a : Addr} {v : Value} (h : w.cell? a = some v) : a.spot = none := by
  unfold World.cell? at h
  split at h
  · split at h
    · cases h
    · rename_i hs; simpa using hs
  · cases h

/-- A slice whose elements are made of integers alone. -/
theorem open_rows {r : Reach} {b0 n D : Nat} {t e : TypeId} {v : Value} {d : DataW H} {p : List MemPlace} (ks : Nat → IntKind) (ht : P.underlying t = some (.slice e)) (hC : P.cellsOf e = n) (hn : 0 < n) (hk : ∀ j, j < n → kindAt P D e j = some (ks j))
    (hv : Value.okWide P w r b0 t v) (h : DataW.Trod enc P w base spare held t v d p) :
    ∃ (q : Option Addr) (g off len cap : Nat) (l : List (Nat → Int)), v = .slice q len cap ∧ l.length = len ∧ len ≤ cap ∧ cap ≤ maxLen ∧ (0 < len → q = some ⟨g, off, none⟩) ∧ (0 < len → g < w.heap.size) ∧
      ∀ j c, l[j]? = some c → ∀ i, i < n → w.cell? ⟨g, off + j * n + i, none⟩ = some (.int (ks i) (c i)) ∧ (Lit.int (ks i) (c i)).wf = true := by
  obtain ⟨a, len, cap, rfl⟩ := okWide_slice ht hv
  obtain ⟨fuel, hf⟩ := h
  rcases Deep.open_slice ht hf with ⟨hcs, _⟩ | ⟨a', len', cap', m, n', D', Pl, hcs, hb, hl, hm, hmm, hx, hel⟩
  · have e1 : (Value.slice a len cap) = .slice none 0 0 := by simpa [Value.cells] using hcs
    cases e1
    exact ⟨none, 0, 0, 0, 0, [], rfl, rfl, by omega, by unfold maxLen; omega, fun h => absurd h (by omega), fun h => absurd h (by omega), fun j c hc => by simp at hc⟩
  · have e1 : (Value.slice a len cap) = .slice (some a') len' cap' := by simpa [Value.cells] using hcs
    cases e1
    have hle : len ≤ m := by rw [hmm]; split <;> omega
    have hcell : ∀ j, j < len → ∃ c : Nat → Int, ∀ i, i < n → w.cell? ((a'.add (j * n)).add i) = some (.int (ks i) (c i)) ∧ (Lit.int (ks i) (c i)).wf = true := by
      intro j hj
      obtain ⟨cs', h1, h2⟩ := hel j (by omega)
      rw [hC] at h1
      obtain ⟨_, h3, h4⟩ := World.cells?_some h1
      have : ∀ i, i < n → ∃ v : Int, w.cell? ((a'.add (j * n)).add i) = some (.int (ks i) v) ∧ (Lit.int (ks i) v).wf = true := fun i hi => by
        obtain ⟨v, hv, hwf⟩ := flat_cell D n' e cs' _ i (ks i) h2 (hk i hi)
        exact ⟨v, (h4 i hi).trans hv, hwf⟩
      obtain ⟨c, hc⟩ := Deep.choose_lt this
      exact ⟨c, hc⟩
    obtain ⟨L, hL⟩ := Deep.choose_lt (α := Nat → Int) hcell
    refine ⟨some a', a'.block, a'.off, len, cap, (List.range len).map L, rfl, by simp, hl, hm, fun h0 => ?_, fun h0 => ?_, fun j c hc i hi => ?_⟩
    · have := spot_of_cell (hL 0 h0 0 hn).1
      rw [Nat.zero_mul] at this
      have h1 : a'.spot = none := by simpa [Addr.add] using this
      obtain ⟨b, o, s⟩ := a'; cases h1; rfl
    · have h1 := (hL 0 h0 0 hn).1
      have := World.block_lt_of_cell? w _ h1
      simpa [Addr.add] using this
    · have hj : j < len := by have := (List.getElem?_eq_some_iff.1 hc).1; simpa using this
      have hcj : c = L j := by simp [hj] at hc; exact hc.symm
      subst hcj
      have h0 := (hL 0 (by omega) 0 hn).1
      have hs : a'.spot = none := by have := spot_of_cell h0; simpa [Addr.add] using this
      have h1 := hL j hj i hi
      rw [add_plain _ hs, add_plain _ rfl] at h1
      exact h1
theorem kinds_of {n D : Nat} {t : TypeId} {ks : Nat → IntKind} (h : (List.range n).map (kindAt P D t) = (List.range n).map fun j => some (ks j)) : ∀ j, j < n → kindAt P D t j = some (ks j) := fun j hj => by
  have := congrArg (·[j]?) h
  simpa [hj] using this
end
end Go.Proofs.Ytalbiggmmmkclaa
namespace Go.Proofs.Ytalbiggmmmkclaa
open Go.ChangeShapes Go.WideShapes Go.ChangeAt Go.RowKit
set_option linter.unusedVariables false

section
variable {H : Type} {enc : TypeId × Value → H} {P : Program} {w : World} {base : Nat} {spare : Nat → Bool} {held : Bool}
/-- A struct that came in: its cells, and what each field reads as. -/
theorem open_struct {r : Reach} {b0 n : Nat} {t : TypeId} {fs : Array Field} {v : Value} {d : DataW H} {p : List MemPlace} (hu : P.underlying t = some (.struct fs)) (hC : P.cellsOf t = n)
    (hv : Value.okWide P w r b0 t v) (h : DataW.Trod enc P w base spare held t v d p) :
    ∃ cs : Array Value, v = .agg cs ∧ cs.size = n ∧ ∃ m, ∀ (i : Nat) (f : Field), fs[i]? = some f → ∃ x, DataW.trod enc P w base spare held m f.type ((cs.toList.drop f.offset).take (P.cellsOf f.type)) = some x := by
  obtain ⟨cs, rfl, hs⟩ : ∃ cs, v = .agg cs ∧ cs.size = P.cellsOf t := by
    simp only [Value.okWide, hu] at hv
    obtain ⟨cs, h1, h2, _⟩ := hv; exact ⟨cs, h1, h2⟩
  obtain ⟨fuel, hf⟩ := h
  obtain ⟨xs, m, _, _, _, hl, hx⟩ := DataW.trod_struct hu hf
  refine ⟨cs, rfl, hs.trans hC, m, fun i f hi => ?_⟩
  have := hx i f hi
  have hlt : i < xs.length := by rw [hl]; exact (Array.getElem?_eq_some_iff.1 hi).1
  rw [List.getElem?_eq_getElem hlt] at this
  exact ⟨_, by simpa [Value.cells] using this⟩
/-- A slice among a struct's fields whose elements are made of integers alone. -/
theorem rows_of {n D fuel : Nat} {t e : TypeId} {cs : List Value} {x : DataW H × List MemPlace} (ks : Nat → IntKind) (ht : P.underlying t = some (.slice e)) (hC : P.cellsOf e = n) (hn : 0 < n) (hk : ∀ j, j < n → kindAt P D e j = some (ks j))
    (hf : DataW.trod enc P w base spare held fuel t cs = some x) :
    ∃ (q : Option Addr) (g off len cap : Nat) (l : List (Nat → Int)), cs = [.slice q len cap] ∧ l.length = len ∧ len ≤ cap ∧ cap ≤ maxLen ∧ (0 < len → q = some ⟨g, off, none⟩) ∧ (0 < len → g < w.heap.size) ∧
      ∀ j c, l[j]? = some c → ∀ i, i < n → w.cell? ⟨g, off + j * n + i, none⟩ = some (.int (ks i) (c i)) ∧ (Lit.int (ks i) (c i)).wf = true := by
  rcases Deep.open_slice ht hf with ⟨hcs, _⟩ | ⟨a', len, cap, m, n', D', Pl, hcs, hb, hl, hm, hmm, hx, hel⟩
  · exact ⟨none, 0, 0, 0, 0, [], hcs, rfl, by omega, by unfold maxLen; omega, fun h => absurd h (by omega), fun h => absurd h (by omega), fun j c hc => by simp at hc⟩
  · have hle : len ≤ m := by rw [hmm]; split <;> omega
    have hcell : ∀ j, j < len → ∃ c : Nat → Int, ∀ i, i < n → w.cell? ((a'.add (j * n)).add i) = some (.int (ks i) (c i)) ∧ (Lit.int (ks i) (c i)).wf = true := by
      intro j hj
      obtain ⟨cs', h1, h2⟩ := hel j (by omega)
      rw [hC] at h1
      obtain ⟨_, h3, h4⟩ := World.cells?_some h1
      have : ∀ i, i < n → ∃ v : Int, w.cell? ((a'.add (j * n)).add i) = some (.int (ks i) v) ∧ (Lit.int (ks i) v).wf = true := fun i hi => by
        obtain ⟨v, hv, hwf⟩ := flat_cell D n' e cs' _ i (ks i) h2 (hk i hi)
        exact ⟨v, (h4 i hi).trans hv, hwf⟩
      obtain ⟨c, hc⟩ := Deep.choose_lt this
      exact ⟨c, hc⟩
    obtain ⟨L, hL⟩ := Deep.choose_lt (α := Nat → Int) hcell
    refine ⟨some a', a'.block, a'.off, len, cap, (List.range len).map L, hcs, by simp, hl, hm, fun h0 => ?_, fun h0 => ?_, fun j c hc i hi => ?_⟩
    · have := spot_of_cell (hL 0 h0 0 hn).1
      rw [Nat.zero_mul] at this
      have h1 : a'.spot = none := by simpa [Addr.add] using this
      obtain ⟨b, o, s⟩ := a'; cases h1; rfl
    · have h1 := (hL 0 h0 0 hn).1
      have := World.block_lt_of_cell? w _ h1
      simpa [Addr.add] using this
    · have hj : j < len := by have := (List.getElem?_eq_some_iff.1 hc).1; simpa using this
      have hcj : c = L j := by simp [hj] at hc; exact hc.symm
      subst hcj
      have h0 := (hL 0 (by omega) 0 hn).1
      have hs : a'.spot = none := by have := spot_of_cell h0; simpa [Addr.add] using this
      have h1 := hL j hj i hi
      rw [add_plain _ hs, add_plain _ rfl] at h1
      exact h1
end
end Go.Proofs.Ytalbiggmmmkclaa
namespace Go.Proofs.Ytalbiggmmmkclaa
open Go.ChangeShapes Go.WideShapes Go.ChangeAt Go.RowKit
set_option linter.unusedVariables false

section
variable {H : Type} {enc : TypeId × Value → H} {w : World} {base : Nat} {spare : Nat → Bool} {held : Bool}
theorem bytes_rows {q : Option Addr} {g off len cap : Nat} {l : List (Nat → Int)} (hl : l.length = len) (hk : len ≤ cap) (hm : cap ≤ maxLen) (hp : 0 < len → q = some ⟨g, off, none⟩) (hg : 0 < len → g < w.heap.size)
    (hc : ∀ j c, l[j]? = some c → ∀ i, i < 1 → w.cell? ⟨g, off + j * 1 + i, none⟩ = some (.int ((fun _ => IntKind.u8) i) (c i)) ∧ (Lit.int ((fun _ => IntKind.u8) i) (c i)).wf = true) : ∃ m, Sl w (.slice q len cap) m ∧ Byt m := by
  have hb : ∀ c, c ∈ l → 0 ≤ c 0 ∧ c 0 ≤ 255 := fun c hcm => by
    obtain ⟨j, hj⟩ := List.getElem?_of_mem hcm
    have := (hc j c hj 0 (by omega)).2
    exact bounds_u8 this
  refine ⟨l.map fun c => (c 0).toNat, sl_of (by simpa using hl) hk hm hp hg (fun j x hx => ?_), fun x hx => ?_⟩
  · rw [List.getElem?_map] at hx
    cases h : l[j]? with
    | none => rw [h] at hx; simp at hx
    | some c =>
      rw [h] at hx
      simp at hx
      have h1 := (hc j c h 0 (by omega)).1
      have h2 := hb c (List.mem_of_getElem? h)
      rw [Nat.mul_one, Nat.add_zero] at h1
      rw [h1, ← hx]
      congr 2
      omega
  · obtain ⟨c, hcm, rfl⟩ := List.mem_map.1 hx
    have := hb c hcm
    omega
set_option maxRecDepth 100000 in
theorem open_bytes {r : Reach} {b0 : Nat} {v : Value} {d : DataW H} {p : List MemPlace} (hv : Value.okWide Try.prog w r b0 39 v) (h : DataW.Trod enc Try.prog w base spare held 39 v d p) : ∃ l, Sl w v l ∧ Byt l := by
  obtain ⟨q, g, off, len, cap, l, rfl, hl, hk, hm, hp, hg, hc⟩ := open_rows (n := 1) (D := 8) (fun _ => .u8) Try.underlying39 (by kernel_rfl) (by omega) (kinds_of (by kernel_rfl)) hv h
  exact bytes_rows hl hk hm hp hg hc
set_option maxRecDepth 100000 in
theorem open_lists {r : Reach} {b0 : Nat} {v : Value} {d : DataW H} {p : List MemPlace} (hv : Value.okWide Try.prog w r b0 31 v) (h : DataW.Trod enc Try.prog w base spare held 31 v d p) : ∃ vs ls, Ls w v vs ls ∧ ∀ l ∈ ls, Byt l := by
  obtain ⟨a, len, cap, rfl⟩ := okWide_slice Try.underlying31 hv
  obtain ⟨fuel, hf⟩ := h
  rcases Deep.open_slice1 Try.underlying31 (by kernel_rfl) hf with ⟨hcs, _⟩ | ⟨a', len', cap', m, n', V, D', Pl, hcs, hb, hl, hm, hmm, hx, hel⟩
  · have e1 : (Value.slice a len cap) = .slice none 0 0 := by simpa [Value.cells] using hcs
    cases e1
    exact ⟨[], [], ls_nil w, fun l h => by simp at h⟩
  · have e1 : (Value.slice a len cap) = .slice (some a') len' cap' := by simpa [Value.cells] using hcs
    cases e1
    have hle : len ≤ m := by rw [hmm]; split <;> omega
    have key : ∀ j, j < len → ∃ l, Sl w (V j) l ∧ Byt l := fun j hj => by
      obtain ⟨_, h2⟩ := hel j (by omega)
      obtain ⟨q, g, off, len2, cap2, l, e, hl, hk, hm, hp, hg, hc⟩ := rows_of (n := 1) (D := 8) (fun _ => .u8) Try.underlying39 (by kernel_rfl) (by omega) (kinds_of (by kernel_rfl)) h2
      have e2 : V j = .slice q len2 cap2 := by simpa using e
      rw [e2]
      exact bytes_rows hl hk hm hp hg hc
    obtain ⟨L, hL⟩ := Deep.choose_lt key
    refine ⟨(List.range len).map V, (List.range len).map L, ⟨by simp, ⟨some a', cap, by simp, by simpa using hl, hm, fun h0 => ?_⟩, fun j x l hx hl => ?_⟩, fun l hlm => ?_⟩
    · have h1 : 0 < len := by simpa using h0
      have hc0 := (hel 0 (by omega)).1
      have hs : a'.spot = none := by have := spot_of_cell hc0; simpa [Addr.add] using this
      refine ⟨a'.block, a'.off, ?_, ?_, fun j x hx => ?_⟩
      · obtain ⟨b, o, s⟩ := a'; cases hs; rfl
      · have := World.block_lt_of_cell? w _ hc0
        simpa [Addr.add] using this
      · have hj : j < len := by have := (List.getElem?_eq_some_iff.1 hx).1; simpa using this
        have hxj : x = V j := by simp [hj] at hx; exact hx.symm
        subst hxj
        have := (hel j (by omega)).1
        rwa [add_plain _ hs] at this
    · have hj : j < len := by have := (List.getElem?_eq_some_iff.1 hx).1; simpa using this
      have hxj : x = V j := by simp [hj] at hx; exact hx.symm
      have hlj : l = L j := by simp [hj] at hl; exact hl.symm
      subst hxj; subst hlj
      exact (hL j hj).1
    · obtain ⟨j, hj, rfl⟩ := List.mem_map.1 hlm
      exact (hL j (by simpa using hj)).2
end
end Go.Proofs.Ytalbiggmmmkclaa
namespace Go.Proofs.Ytalbiggmmmkclaa
open Go.RowKit
set_option linter.unusedVariables false

/-- Two slices whose blocks differ. -/
def Sep (a b : Value) : Prop := ∀ k, a.ownBlock = some k → b.ownBlock ≠ some k
theorem Sep.symm {a b : Value} (h : Sep a b) : Sep b a := fun k hk he => h k he hk
theorem sep_lt {a b : Value} {m : Nat} (h : ∀ k, a.ownBlock = some k → k < m) (g : ∀ k, b.ownBlock = some k → m ≤ k) : Sep a b := fun k hk he => by
  have := h k hk; have := g k he; omega
theorem Sep.row {a b : Value} (h : Sep a b) : a.ownBlock = none ∨ a.ownBlock ≠ b.ownBlock := by
  cases ha : a.ownBlock with
  | none => exact .inl rfl
  | some k => exact .inr (fun e => h k ha e.symm)
theorem Ow.lt {W : World} {base : Nat} {v : Value} {l : List Nat} (h : Ow W base v l) : ∀ k, v.ownBlock = some k → base ≤ k ∧ k < W.heap.size := World.ownsRow.lt h
theorem Ow.kept {W W' : World} {base : Nat} {v x : Value} {l : List Nat} (h : Ow W base v l) (hg : W.grownBy W' x.ownBlock) (hs : Sep v x) : Ow W' base v l := World.ownsRow.kept h hg hs.row
/-- Slices of bytes of the call's own, no two of one block. -/
structure Bag (W : World) (base : Nat) (vs : List Value) (ls : List (List Nat)) : Prop where
  len : vs.length = ls.length
  own : ∀ (j : Nat) (v : Value) (l : List Nat), vs[j]? = some v → ls[j]? = some l → Ow W base v l
  sep : ∀ (i j : Nat) (v u : Value), i ≠ j → vs[i]? = some v → vs[j]? = some u → Sep v u
theorem Bag.lt {W : World} {base : Nat} {vs : List Value} {ls : List (List Nat)} (h : Bag W base vs ls) {j : Nat} {v : Value} (hv : vs[j]? = some v) : ∀ k, v.ownBlock = some k → base ≤ k ∧ k < W.heap.size := by
  have hj : j < ls.length := by rw [← h.len]; exact (List.getElem?_eq_some_iff.1 hv).1
  exact (h.own j v _ hv (List.getElem?_eq_getElem hj)).lt
theorem Bag.keep {W W' : World} {base : Nat} {vs : List Value} {ls : List (List Nat)} (h : Bag W base vs ls) (hb : Below W.heap.size W W') : Bag W' base vs ls :=
  ⟨h.len, fun j v l hv hl => (h.own j v l hv hl).keep hb, h.sep⟩
theorem Bag.kept {W W' : World} {base : Nat} {vs : List Value} {ls : List (List Nat)} {x : Value} (h : Bag W base vs ls) (hg : W.grownBy W' x.ownBlock) (hs : ∀ (j : Nat) (v : Value), vs[j]? = some v → Sep v x) : Bag W' base vs ls :=
  ⟨h.len, fun j v l hv hl => (h.own j v l hv hl).kept hg (hs j v hv), h.sep⟩
theorem Bag.nil (W : World) (base : Nat) : Bag W base [] [] := ⟨rfl, fun j v l hv => by simp at hv, fun i j v u _ hv => by simp at hv⟩
theorem snoc_at {α : Type} {l : List α} {x y : α} {j : Nat} (h : (l ++ [x])[j]? = some y) : (j < l.length ∧ l[j]? = some y) ∨ (j = l.length ∧ y = x) := by
  by_cases c : j < l.length
  · rw [List.getElem?_append_left c] at h; exact .inl ⟨c, h⟩
  · rw [List.getElem?_append_right (by omega)] at h
    right
    have : j - l.length < [x].length := (List.getElem?_eq_some_iff.1 h).1
    simp at this
    have e : j - l.length = 0 := by omega
    rw [e] at h
    simp at h
    exact ⟨by omega, h.symm⟩
theorem Bag.snoc {W : World} {base : Nat} {vs : List Value} {ls : List (List Nat)} {u : Value} {f : List Nat} (h : Bag W base vs ls) (hu : Ow W base u f) (hs : ∀ (j : Nat) (v : Value), vs[j]? = some v → Sep v u) : Bag W base (vs ++ [u]) (ls ++ [f]) := by
  refine ⟨by simp [h.len], fun j v l hv hl => ?_, fun i j v x hij hv hx => ?_⟩
  · rcases snoc_at hv with ⟨h1, h2⟩ | ⟨h1, h2⟩ <;> rcases snoc_at hl with ⟨h3, h4⟩ | ⟨h3, h4⟩
    · exact h.own j v l h2 h4
    · have := h.len; omega
    · have := h.len; omega
    · subst h2; subst h4; exact hu
  · rcases snoc_at hv with ⟨h1, h2⟩ | ⟨h1, h2⟩ <;> rcases snoc_at hx with ⟨h3, h4⟩ | ⟨h3, h4⟩
    · exact h.sep i j v x hij h2 h4
    · subst h4; exact hs i v h2
    · subst h2; exact (hs j x h4).symm
    · omega
theorem Bag.ls {W : World} {base : Nat} {vs : List Value} {ls : List (List Nat)} (h : Bag W base vs ls) {v : Value} {b n : Nat} (ho : W.ownsRow b 39 1 v n vs) : Ls W v vs ls := by
  obtain ⟨h1, q, g, cap, rfl, hp, hg, _, _, hc, hm, hr, _⟩ := own_open ho (by omega)
  rw [Nat.mul_one] at h1
  subst h1
  exact ⟨h.len, ⟨q, cap, rfl, hc, hm, fun h0 => ⟨g, 0, hp h0, hg h0, fun j x hx => by rw [Nat.zero_add]; exact hr j x hx⟩⟩, fun j x l hx hl => (h.own j x l hx hl).sl⟩
section
variable {ops : Array Oper} {rest : List Oper} {o : Oper} {a : Act} {w : World} {Q : Exit → Act → World → Prop}
/-- append of one slice of bytes onto an own list of such: its run. -/
theorem app1_run (A : World) (ty : TypeId) {v u : Value} {n g c : Nat} {vs : List Value} (hown : w.ownsRow A.heap.size 39 1 v n vs) (hu : ∃ q m c, u = .slice q m c) (hcell : w.cell? ⟨g, 0, none⟩ = some u) (h63 : n + 1 ≤ 1000000) (hA : Below A.heap.size A w) :
    ∃ v' w', (Builtin.append_ #[31, 31] ty #[v, .slice (some ⟨g, 0, none⟩) 1 c]).run Try.prog w = .ok v' w' ∧ w'.ownsRow A.heap.size 39 1 v' (n + 1) (vs ++ [u]) ∧ v' ≠ .slice none 0 0 ∧ Below A.heap.size A w' ∧ w.grownBy w' v.ownBlock ∧ (v'.ownBlock = v.ownBlock ∨ v'.ownBlock = some w.heap.size) := by
  obtain ⟨i, hi, hz0, hz1, hz2⟩ := info_parts infoBytes
  obtain ⟨v', w', hr, h2, h3, h4, h5⟩ := run_append_own_at (P := Try.prog) w A.heap.size 31 ty 39 i _ 1 24 Try.underlying31 hi hz0 hz1 hz2 rfl (by omega) v n vs hown ⟨g, 0, none⟩ 1 c [u] rfl (fun j x hx => by
      match j, hx with
      | 0, hx => simp at hx; subst hx; rw [Addr.add_mid]; exact hcell) (fun x hx => by simp at hx; subst hx; obtain ⟨q, m, c, rfl⟩ := hu; rfl) (by unfold maxLen; omega) (by omega) hA.size
  refine ⟨v', w', hr, h2, fun e => by have := h4.1 e; omega, ?_, h3, h5⟩
  refine hA.grown h3 hA.size (fun r hr => ?_)
  rcases hown.2 with ⟨rfl, _⟩ | ⟨g', cap', cur', rfl, hbg, _⟩
  · cases hr
  · cases hr; exact hbg
theorem app1 (A : World) (hw : Region.wanted o (yielded ops a.tmps) = true) {s x : Operand} (ho : o.op = .call { callee := .builtin .append, args := #[s, x], argTypes := #[31, 31] })
    {v u : Value} {n g c : Nat} {vs : List Value} (hs : a.eval s = v) (hown : w.ownsRow A.heap.size 39 1 v n vs) (hx : a.eval x = .slice (some ⟨g, 0, none⟩) 1 c) (hu : ∃ q m c, u = .slice q m c) (hcell : w.cell? ⟨g, 0, none⟩ = some u) (h63 : n + 1 ≤ 1000000) (hA : Below A.heap.size A w)
    (h : ∀ v' w', w'.ownsRow A.heap.size 39 1 v' (n + 1) (vs ++ [u]) → v' ≠ .slice none 0 0 → Below A.heap.size A w' → w.grownBy w' v.ownBlock → (v'.ownBlock = v.ownBlock ∨ v'.ownBlock = some w.heap.size) → wpList Try.prog ops Q rest (a.put o.dst v') w') : wpList Try.prog ops Q (o :: rest) a w := by
  unfold wpList
  rw [if_pos hw]
  left
  obtain ⟨v', w', hr, h1, h2, h3, h4, h5⟩ := app1_run (c := c) A o.type hown hu hcell h63 hA
  unfold Oper.wp execOp
  simp only [ho, resolve, invoke, builtin, Sem.run_bind, Sem.run_pure, Result.andThen_ok, List.map_toArray, List.map_cons, List.map_nil, hs, hx, hr]
  exact h v' w' h1 h2 h3 h4 h5
end
/-- A list and its slices, each of its own. -/
structure Lis (W : World) (base : Nat) (v : Value) (vs : List Value) (ls : List (List Nat)) : Prop where
  row : W.ownsRow base 39 1 v ls.length vs
  bag : Bag W base vs ls
  sep : ∀ (j : Nat) (u : Value), vs[j]? = some u → Sep u v
theorem Lis.nil (W : World) (base : Nat) : Lis W base (.slice none 0 0) [] [] := ⟨World.ownsRow_nil W _ _ _, .nil W base, fun j u h => by simp at h⟩
/-- Behind an append of one more. -/
theorem Lis.snoc {W0 W W' : World} {base : Nat} {v v' u : Value} {vs : List Value} {ls : List (List Nat)} {f : List Nat} (h : Lis W0 base v vs ls) (hb : Below W0.heap.size W0 W) (hu : Ow W W0.heap.size u f) (hbs : base ≤ W0.heap.size)
    (hown : W'.ownsRow base 39 1 v' (ls.length + 1) (vs ++ [u])) (hg : W.grownBy W' v.ownBlock) (hat : v'.ownBlock = v.ownBlock ∨ v'.ownBlock = some W.heap.size) : Lis W' base v' (vs ++ [u]) (ls ++ [f]) := by
  have hvl : ∀ k, v.ownBlock = some k → k < W0.heap.size := fun k hk => (World.ownsRow.lt h.row k hk).2
  have huv : Sep u v := (sep_lt hvl (fun k hk => (hu.lt k hk).1)).symm
  have hsu : ∀ (j : Nat) (x : Value), vs[j]? = some x → Sep x u := fun j x hx => sep_lt (fun k hk => (h.bag.lt hx k hk).2) (fun k hk => (hu.lt k hk).1)
  have B := ((h.bag.keep hb).snoc (hu.less hbs) hsu)
  have hs2 : ∀ (j : Nat) (x : Value), (vs ++ [u])[j]? = some x → Sep x v := fun j x hx => by
    rcases snoc_at hx with ⟨_, h2⟩ | ⟨_, h2⟩
    · exact h.sep j x h2
    · subst h2; exact huv
  refine ⟨by rw [List.length_append]; exact hown, B.kept hg hs2, fun j x hx => ?_⟩
  rcases hat with e | e
  · intro k hk; rw [e]; exact hs2 j x hx k hk
  · intro k hk he
    rw [e] at he
    have := (B.lt hx k hk).2
    simp at he
    omega
theorem Lis.keep {W W' : World} {base : Nat} {v : Value} {vs : List Value} {ls : List (List Nat)} (h : Lis W base v vs ls) (hb : Below W.heap.size W W') : Lis W' base v vs ls := ⟨own_keep h.row hb, h.bag.keep hb, h.sep⟩
theorem Ow.form {W : World} {base : Nat} {v : Value} {l : List Nat} (h : Ow W base v l) : ∃ q cap, v = .slice q l.length cap := by
  obtain ⟨q, cap, e, _⟩ := h.sl
  exact ⟨q, cap, e⟩

/-- The number of a slot. -/
def numOf : Value → Nat
  | .int _ n => n.toNat
  | _ => 0
theorem spt_at (l : List Nat) (fs : List (List Nat)) (h : spt l = fs ++ spt (l.drop (spN fs))) (hok : insOK (l.drop (spN fs)) = true) :
    spt l = (fs ++ [insB (l.drop (spN fs))]) ++ spt (l.drop (spN (fs ++ [insB (l.drop (spN fs))]))) := by
  rw [h, spt_go hok, spN_snoc, List.drop_drop, List.append_assoc]; rfl
set_option maxHeartbeats 1000000 in
theorem split_any (v : Value) (l : List Nat) (w : World) (hv : Sl w v l) (hb : Byt l) (hl : l.length ≤ 1048576) :
    Calls Try.prog 36 #[v] w fun e w' => ∃ v' vs, e = .returned (.tuple #[v', .int .i64 ((spN (spt l) : Nat) : Int)]) ∧ Lis w' w.heap.size v' vs (spt l) ∧ Below w.heap.size w w' := by
  obtain ⟨q, cap, g, off, rfl, hc, hm, hp, hg, hr⟩ := hv.open
  clear hp hg hr
  generalize hn : l.length = n at *
  go_enter Try.func36, Try.ntmps36
  go_wp2_with fail
  go_loopw [4, 5] (fun x i wr => ∃ fs vs, i = .int .i64 ((spN fs : Nat) : Int) ∧ spN fs ≤ n ∧ spt l = fs ++ spt (l.drop (spN fs)) ∧ Lis wr w.heap.size x vs fs ∧ Below w.heap.size w wr) (fun _ i _ => n - numOf i)
  case atStart => exact ⟨[], [], rfl, by simp [spN], by simp [spN], Lis.nil w _, Below.refl _ _⟩
  case round =>
    obtain ⟨fs, vs, rfl, hat, HSP, HL, hbw⟩ := hrel
    have HSP' : Hid (spt l = fs ++ spt (l.drop (spN fs))) := HSP
    clear HSP
    have hvr := hv.keep hbw
    have hbd := hb.drop (spN fs)
    have hlen : (l.drop (spN fs)).length = n - spN fs := by rw [List.length_drop, hn]
    have hfl := spN_len fs
    cases hok : insOK (l.drop (spN fs)) with
    | false =>
      have HE : Hid (spt l = fs) := by show _ = _; rw [HSP'.out, spt_stop hok, List.append_nil]
      generalize hA : spN fs = A at *
      go_wp2_with (first
        | (refine slb_l rfl rfl A rfl rfl rfl hat hvr ?_; intro q2 s2)
        | (go_at_call 50; refine (inside_no _ _ _ s2 hbd hok).mono ?_; rintro e W2 ⟨rfl, hb2⟩))
      go_ret2
      rw [HE.out, hA]
      exact ⟨_, vs, rfl, HL.keep hb2, ab_trans hbw hb2⟩
    | true =>
      have HE := spt_at l fs HSP'.out hok
      have hile := insB_le hok
      have HE' : Hid (spt l = (fs ++ [insB (l.drop (spN fs))]) ++ spt (l.drop (spN (fs ++ [insB (l.drop (spN fs))])))) := HE
      clear HE
      have HN : Hid (spN (fs ++ [insB (l.drop (spN fs))]) = spN fs + (8 + (insB (l.drop (spN fs))).length)) := spN_snoc _ _
      rw [hlen] at hile
      generalize hA : spN fs = A at *
      generalize hF : insB (l.drop A) = F at *
      go_upto_region 4 with (first
        | (refine slb_l rfl rfl A rfl rfl rfl hat hvr ?_; intro q2 s2)
        | (go_at_call 50; refine (inside_ok _ _ _ s2 hbd hok).mono ?_; rw [hF]; rintro e W2 ⟨q3, cap3, rfl, s3, hb2⟩))
      have HL2 := HL.keep hb2
      have hbw2 := ab_trans hbw hb2
      clear HL hbw hvr s2 hbd hlen hok
      generalize hFl : F.length = m at *
      have HFm : Hid (F.length = m) := hFl
      clear hFl
      go_upto_region 6 with fail
      go_wp2_with (first
        | (go_at_call 47; refine (clone_any _ F _ s3 (by rw [HFm.out]; omega)).mono ?_; rintro e W3 ⟨u, rfl, hown3, hb3⟩; have HO3 := ow_of hown3; obtain ⟨q5, cap5, rfl⟩ := HO3.form)
        | (refine bs_ls rfl rfl [_] [F] (by simp only [List.map_toArray, List.map_cons, List.map_nil]; rfl) (bsl1 _ _ _ _) rfl (by decide) rfl (each1 HO3.sl) ?_; intro W4 hls4 hb4 hbk4)
        | (at_builtin; refine app1 w rfl rfl rfl (own_keep HL2.row (ab_trans hb3 hb4)) rfl ⟨_, _, _, rfl⟩ (hbk4.at (i := 0) rfl) (by omega) (ab_trans hbw2 (ab_trans hb3 hb4)) ?_; intro v6 W6 hown6 hnn6 hb6 hgr6 hat6))
      refine ⟨⟨fs ++ [F], vs ++ [_], ?_, ?_, HE'.out, HL2.snoc (ab_trans hb3 hb4) (HO3.keep hb4) hbw2.size hown6 hgr6 hat6, hb6⟩, ?_⟩
      · rw [HN.out]; congr 1
      · rw [HN.out]; omega
      · simp only [numOf]; omega
end Go.Proofs.Ytalbiggmmmkclaa
