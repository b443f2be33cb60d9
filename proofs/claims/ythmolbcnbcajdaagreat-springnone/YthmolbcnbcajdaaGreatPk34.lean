/-
  What comes in, with its sizes: bytes and lists of bytes.
-/
import Derived.Test.YthmolbcnbcajdaaGreatPk30
import Derived.SizedLaws
namespace Go.Proofs.YthmolbcnbcajdaaGreat
open Go.ChangeShapes Go.WideShapes Go.ChangeAt Go.RowKit
set_option linter.unusedVariables false
set_option maxRecDepth 100000

section
variable {H : Type} {enc : TypeId × Value → H} {w : World} {base : Nat} {spare : Nat → Bool} {held : Bool} {P : Program}
/-- A slice that came in is not longer than what a machine reaches. -/
theorem len_ofT {fuel : Nat} {t e : TypeId} {q : Option Addr} {len cap : Nat} {x : DataW H × List MemPlace} (ht : P.underlying t = some (.slice e)) (hf : DataW.trod enc P w base spare held fuel t [.slice q len cap] = some x) (hw : ∀ n ∈ x.1.weights P t, n ≤ reachBytes) : len * P.bytesOf e ≤ reachBytes := by
  rcases Deep.open_slice ht hf with ⟨hcs, _⟩ | ⟨a', len', cap', m, n', D', Pl, hcs, hb, hl, hm, hmm, rfl, hel⟩
  · simp at hcs
    obtain ⟨-, rfl, -⟩ := hcs
    simp
  · simp at hcs
    obtain ⟨rfl, rfl, rfl⟩ := hcs
    have h1 := hw ((len + (m - len)) * P.bytesOf e) (by simp [DataW.weights, ht])
    exact Nat.le_trans (Nat.mul_le_mul_right _ (by omega)) h1
theorem weights_mem_all {e : TypeId} : ∀ {l : List (DataW H)} {d : DataW H}, d ∈ l → ∀ n ∈ d.weights P e, n ∈ DataW.weightsAll P e l
  | d0 :: r, d, hd, n, hn => by
    simp only [DataW.weightsAll, List.mem_append]
    rcases List.mem_cons.1 hd with rfl | h
    · exact Or.inl hn
    · exact Or.inr (weights_mem_all h n hn)
/-- Bytes and how many they may be. -/
def SlZ (w : World) (v : Value) (l : List Nat) : Prop := Sl w v l ∧ Byt l ∧ l.length ≤ 140737488351232
def LsZ (w : World) (v : Value) (vs : List Value) (ls : List (List Nat)) : Prop := Ls w v vs ls ∧ (∀ l ∈ ls, Byt l ∧ l.length ≤ 140737488351232) ∧ ls.length ≤ 5864062014634
theorem bytesZ {fuel : Nat} {cs : List Value} {x : DataW H × List MemPlace} (hf : DataW.trod enc Tryz.prog w base spare held fuel 68 cs = some x) (hw : ∀ n ∈ x.1.weights Tryz.prog 68, n ≤ reachBytes) :
    ∃ q n cap l, cs = [.slice q n cap] ∧ SlZ w (.slice q n cap) l := by
  obtain ⟨q, g, off, len, cap, l, e, hl, hk, hm, hp, hg, hc⟩ := rows_of (n := 1) (D := 8) (fun _ => .u8) Tryz.underlying68 (by kernel_rfl) (by omega) (kinds_of (by kernel_rfl)) hf
  obtain ⟨m, hs, hb⟩ := bytes_rows hl hk hm hp hg hc
  subst e
  have z := len_ofT Tryz.underlying68 hf hw
  rw [show Tryz.prog.bytesOf 5 = 1 by kernel_rfl] at z
  unfold reachBytes at z
  have := hs.len
  exact ⟨q, len, cap, m, rfl, hs, hb, by omega⟩
theorem listsZ {fuel : Nat} {cs : List Value} {x : DataW H × List MemPlace} (hf : DataW.trod enc Tryz.prog w base spare held fuel 56 cs = some x) (hw : ∀ n ∈ x.1.weights Tryz.prog 56, n ≤ reachBytes) :
    ∃ q n cap vs ls, cs = [.slice q n cap] ∧ LsZ w (.slice q n cap) vs ls := by
  rcases Deep.open_slice1 Tryz.underlying56 (by kernel_rfl) hf with ⟨hcs, _⟩ | ⟨a', len, cap, m, n', V, D', Pl, hcs, hb, hl, hm, hmm, hx, hel⟩
  · exact ⟨none, 0, 0, [], [], hcs, ls_nil w, (fun l h => by simp at h), by simp⟩
  · subst hcs
    have z := len_ofT Tryz.underlying56 hf hw
    rw [show Tryz.prog.bytesOf 68 = 24 by kernel_rfl] at z
    unfold reachBytes at z
    have hle : len ≤ m := by rw [hmm]; split <;> omega
    have key : ∀ j, j < len → ∃ l, SlZ w (V j) l := fun j hj => by
      obtain ⟨_, h2⟩ := hel j (by omega)
      obtain ⟨q, n, c, l, e, hs⟩ := bytesZ h2 (fun n hn => hw n (by
        subst hx
        simp only [DataW.weights, Tryz.underlying56]
        refine List.mem_cons_of_mem _ (List.mem_append_left _ (weights_mem_all (List.mem_map.2 ⟨j, List.mem_range.2 hj, rfl⟩) n hn))))
      have e2 : V j = .slice q n c := by simpa using e
      rw [e2]
      exact ⟨l, hs⟩
    obtain ⟨L, hL⟩ := Deep.choose_lt key
    refine ⟨some a', len, cap, (List.range len).map V, (List.range len).map L, rfl, ⟨by simp, ⟨some a', cap, by simp, by simpa using hl, hm, fun h0 => ?_⟩, fun j x l hx hl => ?_⟩, fun l hlm => ?_, by simp; omega⟩
    · have h1 : 0 < len := by simpa using h0
      have hc0 := (hel 0 (by omega)).1
      have hs : a'.spot = none := by have := spot_of_cell hc0; simpa [Addr.add] using this
      refine ⟨a'.block, a'.off, ?_, ?_, fun j x hx => ?_⟩
      · obtain ⟨b, o, s⟩ := a'; cases hs; rfl
      · have := World.block_lt_of_cell? w _ hc0
        simpa [Addr.add] using this
      · have hj : j < len := by have := (List.getElem?_eq_some_iff.1 hx).1; simpa using this
        have hxj : x = V j := by simp [hj] at hx; exact hx.symm
        subst hxj
        have := (hel j (by omega)).1
        rwa [add_plain _ hs] at this
    · have hj : j < len := by have := (List.getElem?_eq_some_iff.1 hx).1; simpa using this
      have hxj : x = V j := by simp [hj] at hx; exact hx.symm
      have hlj : l = L j := by simp [hj] at hl; exact hl.symm
      subst hxj; subst hlj
      exact (hL j hj).1
    · obtain ⟨j, hj, rfl⟩ := List.mem_map.1 hlm
      have := hL j (by simpa using hj)
      exact ⟨this.2.1, this.2.2⟩
theorem open_bytesZ {r : Reach} {b0 : Nat} {v : Value} {d : DataW H} {p : List MemPlace} (hv : Value.okWide Tryz.prog w r b0 68 v) (h : DataW.Trod enc Tryz.prog w base spare held 68 v d p) (hz : ∀ n ∈ d.weights Tryz.prog 68, n ≤ reachBytes) : ∃ q n cap l, v = .slice q n cap ∧ SlZ w (.slice q n cap) l := by
  obtain ⟨a, len, cap, rfl⟩ := okWide_slice Tryz.underlying68 hv
  obtain ⟨fuel, hf⟩ := h
  obtain ⟨q, n, c, l, e, hs⟩ := bytesZ hf hz
  have e1 : (Value.slice a len cap) = .slice q n c := by simpa [Value.cells] using e
  exact ⟨q, n, c, l, e1, hs⟩
theorem open_listsZ {r : Reach} {b0 : Nat} {v : Value} {d : DataW H} {p : List MemPlace} (hv : Value.okWide Tryz.prog w r b0 56 v) (h : DataW.Trod enc Tryz.prog w base spare held 56 v d p) (hz : ∀ n ∈ d.weights Tryz.prog 56, n ≤ reachBytes) : ∃ q n cap vs ls, v = .slice q n cap ∧ LsZ w (.slice q n cap) vs ls := by
  obtain ⟨a, len, cap, rfl⟩ := okWide_slice Tryz.underlying56 hv
  obtain ⟨fuel, hf⟩ := h
  obtain ⟨q, n, c, vs, ls, e, hs⟩ := listsZ hf hz
  have e1 : (Value.slice a len cap) = .slice q n c := by simpa [Value.cells] using e
  exact ⟨q, n, c, vs, ls, e1, hs⟩
theorem dy_struct {r : Reach} {b0 n : Nat} {t : TypeId} {fs : Array Field} {v : Value} {d : DataW H} {p : List MemPlace} (hu : P.underlying t = some (.struct fs)) (hC : P.cellsOf t = n)
    (hv : Value.okWide P w r b0 t v) (h : DataW.Trod enc P w base spare held t v d p) :
    ∃ cs : Array Value, v = .agg cs ∧ cs.size = n ∧ ∃ m xs, d = .agg xs ∧ ∀ (i : Nat) (f : Field), fs[i]? = some f → ∃ x, xs[i]? = some x.1 ∧ DataW.trod enc P w base spare held m f.type ((cs.toList.drop f.offset).take (P.cellsOf f.type)) = some x := by
  obtain ⟨cs, rfl, hs⟩ : ∃ cs, v = .agg cs ∧ cs.size = P.cellsOf t := by
    simp only [Value.okWide, hu] at hv
    obtain ⟨cs, h1, h2, _⟩ := hv; exact ⟨cs, h1, h2⟩
  obtain ⟨fuel, hf⟩ := h
  obtain ⟨xs, m, _, he, _, hl, hx⟩ := DataW.trod_struct hu hf
  cases he
  refine ⟨cs, rfl, hs.trans hC, m, _, rfl, fun i f hi => ?_⟩
  have := hx i f hi
  have hlt : i < xs.length := by rw [hl]; exact (Array.getElem?_eq_some_iff.1 hi).1
  rw [List.getElem?_eq_getElem hlt] at this
  exact ⟨xs[i], by rw [List.getElem?_map, List.getElem?_eq_getElem hlt]; rfl, by simpa [Value.cells] using this⟩
/-- A number, a truth value that came in within a struct. -/
theorem i64_of {fuel : Nat} {e : Value} {x : DataW H × List MemPlace} (hf : DataW.trod enc Tryz.prog w base spare held fuel 3 [e] = some x) : ∃ a, e = .int .i64 a ∧ -9223372036854775808 ≤ a ∧ a ≤ 9223372036854775807 := by
  obtain ⟨a, e1, -, e2⟩ := DataW.trod_int Tryz.underlying3 hf
  exact ⟨a, by simpa using e1, bounds_i64 e2⟩
theorem bool_of {fuel : Nat} {e : Value} {x : DataW H × List MemPlace} (hf : DataW.trod enc Tryz.prog w base spare held fuel 4 [e] = some x) : ∃ a, e = .bool a := by
  obtain ⟨a, e1, -⟩ := DataW.trod_bool Tryz.underlying4 hf
  exact ⟨a, by simpa using e1⟩
abbrev I64 (a : Int) : Prop := -9223372036854775808 ≤ a ∧ a ≤ 9223372036854775807
end
end Go.Proofs.YthmolbcnbcajdaaGreat
