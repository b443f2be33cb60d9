/-
  What comes in to the laws of diaries: bytes and lists of bytes with their sizes, rows of truth values, the structs of the laws.
-/
import Derived.Test.YtalbiggmmmkclaaDyE
import Derived.Test.YtalbiggmmmkclaaTpW
import Derived.SizedLaws
namespace Go.Proofs.Ytalbiggmmmkclaa
open Go.ChangeShapes Go.WideShapes Go.ChangeAt Go.RowKit
set_option linter.unusedVariables false
set_option maxRecDepth 100000

section
variable {H : Type} {enc : TypeId × Value → H} {w : World} {base : Nat} {spare : Nat → Bool} {held : Bool} {P : Program}
theorem weights_mem_all {e : TypeId} : ∀ {l : List (DataW H)} {d : DataW H}, d ∈ l → ∀ n ∈ d.weights P e, n ∈ DataW.weightsAll P e l
  | d0 :: r, d, hd, n, hn => by
    simp only [DataW.weightsAll, List.mem_append]
    rcases List.mem_cons.1 hd with rfl | h
    · exact Or.inl hn
    · exact Or.inr (weights_mem_all h n hn)
/-- Bytes and how many they may be. -/
def SlZ (w : World) (v : Value) (l : List Nat) : Prop := Sl w v l ∧ Byt l ∧ l.length ≤ 200000000000000
def LsZ (w : World) (v : Value) (vs : List Value) (ls : List (List Nat)) : Prop := Ls w v vs ls ∧ (∀ l ∈ ls, Byt l ∧ l.length ≤ 200000000000000) ∧ ls.length ≤ 6000000000000
theorem bytesZ {fuel : Nat} {cs : List Value} {x : DataW H × List MemPlace} (hf : DataW.trod enc Try.prog w base spare held fuel 39 cs = some x) (hw : ∀ n ∈ x.1.weights Try.prog 39, n ≤ reachBytes) :
    ∃ q n cap l, cs = [.slice q n cap] ∧ SlZ w (.slice q n cap) l := by
  obtain ⟨q, g, off, len, cap, l, e, hl, hk, hm, hp, hg, hc⟩ := rows_of (n := 1) (D := 8) (fun _ => .u8) Try.underlying39 (by kernel_rfl) (by omega) (kinds_of (by kernel_rfl)) hf
  obtain ⟨m, hs, hb⟩ := bytes_rows hl hk hm hp hg hc
  subst e
  have z := len_ofT Try.underlying39 hf hw
  rw [show Try.prog.bytesOf 5 = 1 by kernel_rfl] at z
  unfold reachBytes at z
  have := hs.len
  exact ⟨q, len, cap, m, rfl, hs, hb, by omega⟩
theorem listsZ {fuel : Nat} {cs : List Value} {x : DataW H × List MemPlace} (hf : DataW.trod enc Try.prog w base spare held fuel 31 cs = some x) (hw : ∀ n ∈ x.1.weights Try.prog 31, n ≤ reachBytes) :
    ∃ q n cap vs ls, cs = [.slice q n cap] ∧ LsZ w (.slice q n cap) vs ls := by
  rcases Deep.open_slice1 Try.underlying31 (by kernel_rfl) hf with ⟨hcs, _⟩ | ⟨a', len, cap, m, n', V, D', Pl, hcs, hb, hl, hm, hmm, hx, hel⟩
  · exact ⟨none, 0, 0, [], [], hcs, ls_nil w, (fun l h => by simp at h), by simp⟩
  · subst hcs
    have z := len_ofT Try.underlying31 hf hw
    rw [show Try.prog.bytesOf 39 = 24 by kernel_rfl] at z
    unfold reachBytes at z
    have hle : len ≤ m := by rw [hmm]; split <;> omega
    have key : ∀ j, j < len → ∃ l, SlZ w (V j) l := fun j hj => by
      obtain ⟨_, h2⟩ := hel j (by omega)
      obtain ⟨q, n, c, l, e, hs⟩ := bytesZ h2 (fun n hn => hw n (by
        subst hx
        simp only [DataW.weights, Try.underlying31]
        refine List.mem_cons_of_mem _ (List.mem_append_left _ (weights_mem_all (List.mem_map.2 ⟨j, List.mem_range.2 hj, rfl⟩) n hn))))
      have e2 : V j = .slice q n c := by simpa using e
      rw [e2]
      exact ⟨l, hs⟩
    obtain ⟨L, hL⟩ := Deep.choose_lt key
    refine ⟨some a', len, cap, (List.range len).map V, (List.range len).map L, rfl, ⟨by simp, ⟨some a', cap, by simp, by simpa using hl, hm, fun h0 => ?_⟩, fun j x l hx hl => ?_⟩, fun l hlm => ?_, by simp; omega⟩
    · have h1 : 0 < len := by simpa using h0
      have hc0 := (hel 0 (by omega)).1
      have hs : a'.spot = none := by have := spot_of_cell hc0; simpa [Addr.add] using this
      refine ⟨a'.block, a'.off, ?_, ?_, fun j x hx => ?_⟩
      · obtain ⟨b, o, s⟩ := a'; cases hs; rfl
      · have := World.block_lt_of_cell? w _ hc0
        simpa [Addr.add] using this
      · have hj : j < len := by have := (List.getElem?_eq_some_iff.1 hx).1; simpa using this
        have hxj : x = V j := by simp [hj] at hx; exact hx.symm
        subst hxj
        have := (hel j (by omega)).1
        rwa [add_plain _ hs] at this
    · have hj : j < len := by have := (List.getElem?_eq_some_iff.1 hx).1; simpa using this
      have hxj : x = V j := by simp [hj] at hx; exact hx.symm
      have hlj : l = L j := by simp [hj] at hl; exact hl.symm
      subst hxj; subst hlj
      exact (hL j hj).1
    · obtain ⟨j, hj, rfl⟩ := List.mem_map.1 hlm
      have := hL j (by simpa using hj)
      exact ⟨this.2.1, this.2.2⟩
theorem open_bytesZ {r : Reach} {b0 : Nat} {v : Value} {d : DataW H} {p : List MemPlace} (hv : Value.okWide Try.prog w r b0 39 v) (h : DataW.Trod enc Try.prog w base spare held 39 v d p) (hz : ∀ n ∈ d.weights Try.prog 39, n ≤ reachBytes) : ∃ q n cap l, v = .slice q n cap ∧ SlZ w (.slice q n cap) l := by
  obtain ⟨a, len, cap, rfl⟩ := okWide_slice Try.underlying39 hv
  obtain ⟨fuel, hf⟩ := h
  obtain ⟨q, n, c, l, e, hs⟩ := bytesZ hf hz
  have e1 : (Value.slice a len cap) = .slice q n c := by simpa [Value.cells] using e
  exact ⟨q, n, c, l, e1, hs⟩
theorem open_listsZ {r : Reach} {b0 : Nat} {v : Value} {d : DataW H} {p : List MemPlace} (hv : Value.okWide Try.prog w r b0 31 v) (h : DataW.Trod enc Try.prog w base spare held 31 v d p) (hz : ∀ n ∈ d.weights Try.prog 31, n ≤ reachBytes) : ∃ q n cap vs ls, v = .slice q n cap ∧ LsZ w (.slice q n cap) vs ls := by
  obtain ⟨a, len, cap, rfl⟩ := okWide_slice Try.underlying31 hv
  obtain ⟨fuel, hf⟩ := h
  obtain ⟨q, n, c, vs, ls, e, hs⟩ := listsZ hf hz
  have e1 : (Value.slice a len cap) = .slice q n c := by simpa [Value.cells] using e
  exact ⟨q, n, c, vs, ls, e1, hs⟩
/-- A row of truth values. -/
structure Bs (W : World) (q : Option Addr) (n cap g off : Nat) (l : List Bool) : Prop where
  len : l.length = n
  fits : n ≤ cap
  max : cap ≤ 9223372036854775807
  ptr : 0 < n → q = some ⟨g, off, none⟩
  lt : 0 < n → g < W.heap.size
  row : ∀ j x, l[j]? = some x → W.cell? ⟨g, off + j, none⟩ = some (.bool x)
theorem open_bools {r : Reach} {b0 : Nat} {v : Value} {d : DataW H} {p : List MemPlace} (hv : Value.okWide Try.prog w r b0 71 v) (h : DataW.Trod enc Try.prog w base spare held 71 v d p) : ∃ q n cap g off l, v = .slice q n cap ∧ Bs w q n cap g off l := by
  obtain ⟨a, len, cap, rfl⟩ := okWide_slice Try.underlying71 hv
  obtain ⟨fuel, hf⟩ := h
  rcases Deep.open_slice1 Try.underlying71 (by kernel_rfl) hf with ⟨hcs, _⟩ | ⟨a', len', cap', m, n', V, D', Pl, hcs, hb, hl, hm, hmm, hx, hel⟩
  · have e1 : (Value.slice a len cap) = .slice none 0 0 := by simpa [Value.cells] using hcs
    exact ⟨none, 0, 0, 0, 0, [], e1, rfl, by omega, by omega, fun h => absurd h (by omega), fun h => absurd h (by omega), fun j c hc => by simp at hc⟩
  · have e1 : (Value.slice a len cap) = .slice (some a') len' cap' := by simpa [Value.cells] using hcs
    cases e1
    have hle : len ≤ m := by rw [hmm]; split <;> omega
    have key : ∀ j, j < len → ∃ l, V j = .bool l := fun j hj => by
      obtain ⟨_, h2⟩ := hel j (by omega)
      obtain ⟨b, e, -⟩ := DataW.trod_bool Try.underlying4 h2
      exact ⟨b, by simpa using e⟩
    obtain ⟨L, hL⟩ := Deep.choose_lt key
    have hspot : 0 < len → a'.spot = none := fun h0 => by
      have hc0 := (hel 0 (by omega)).1
      have := spot_of_cell hc0
      simpa [Addr.add] using this
    refine ⟨some a', len, cap, a'.block, a'.off, (List.range len).map L, rfl, by simp, hl, hm, fun h0 => ?_, fun h0 => ?_, fun j x hx => ?_⟩
    · have hs := hspot h0
      obtain ⟨b, o, s⟩ := a'; cases hs; rfl
    · have hc0 := (hel 0 (by omega)).1
      have := World.block_lt_of_cell? w _ hc0
      simpa [Addr.add] using this
    · have hj : j < len := by have := (List.getElem?_eq_some_iff.1 hx).1; simpa using this
      have hxj : x = L j := by simp [hj] at hx; exact hx.symm
      subst hxj
      have hs := hspot (by omega)
      have := (hel j (by omega)).1
      rwa [add_plain _ hs, hL j hj] at this
theorem dy_struct {r : Reach} {b0 n : Nat} {t : TypeId} {fs : Array Field} {v : Value} {d : DataW H} {p : List MemPlace} (hu : P.underlying t = some (.struct fs)) (hC : P.cellsOf t = n)
    (hv : Value.okWide P w r b0 t v) (h : DataW.Trod enc P w base spare held t v d p) :
    ∃ cs : Array Value, v = .agg cs ∧ cs.size = n ∧ ∃ m xs, d = .agg xs ∧ ∀ (i : Nat) (f : Field), fs[i]? = some f → ∃ x, xs[i]? = some x.1 ∧ DataW.trod enc P w base spare held m f.type ((cs.toList.drop f.offset).take (P.cellsOf f.type)) = some x := by
  obtain ⟨cs, rfl, hs⟩ : ∃ cs, v = .agg cs ∧ cs.size = P.cellsOf t := by
    simp only [Value.okWide, hu] at hv
    obtain ⟨cs, h1, h2, _⟩ := hv; exact ⟨cs, h1, h2⟩
  obtain ⟨fuel, hf⟩ := h
  obtain ⟨xs, m, _, he, _, hl, hx⟩ := DataW.trod_struct hu hf
  cases he
  refine ⟨cs, rfl, hs.trans hC, m, _, rfl, fun i f hi => ?_⟩
  have := hx i f hi
  have hlt : i < xs.length := by rw [hl]; exact (Array.getElem?_eq_some_iff.1 hi).1
  rw [List.getElem?_eq_getElem hlt] at this
  exact ⟨xs[i], by rw [List.getElem?_map, List.getElem?_eq_getElem hlt]; rfl, by simpa [Value.cells] using this⟩
/-- A number, a truth value that came in within a struct. -/
theorem i64_of {fuel : Nat} {e : Value} {x : DataW H × List MemPlace} (hf : DataW.trod enc Try.prog w base spare held fuel 3 [e] = some x) : ∃ a, e = .int .i64 a ∧ -9223372036854775808 ≤ a ∧ a ≤ 9223372036854775807 := by
  obtain ⟨a, e1, -, e2⟩ := DataW.trod_int Try.underlying3 hf
  exact ⟨a, by simpa using e1, bounds_i64 e2⟩
theorem bool_of {fuel : Nat} {e : Value} {x : DataW H × List MemPlace} (hf : DataW.trod enc Try.prog w base spare held fuel 4 [e] = some x) : ∃ a, e = .bool a := by
  obtain ⟨a, e1, -⟩ := DataW.trod_bool Try.underlying4 hf
  exact ⟨a, by simpa using e1⟩
abbrev I64 (a : Int) : Prop := -9223372036854775808 ≤ a ∧ a ≤ 9223372036854775807
/-- estuarylaw07.Cut. -/
theorem open_cut {r : Reach} {b0 : Nat} {v : Value} {d : DataW H} {p : List MemPlace} (hv : Value.okWide Try.prog w r b0 61 v) (h : DataW.Trod enc Try.prog w base spare held 61 v d p) (hz : ∀ n ∈ d.weights Try.prog 61, n ≤ reachBytes) :
    ∃ q n c vs ls q' n' c' vs' ls' rw arm fl kp, v = .agg #[.slice q n c, .slice q' n' c', .bool rw, .int .i64 arm, .int .i64 fl, .int .i64 kp] ∧ LsZ w (.slice q n c) vs ls ∧ LsZ w (.slice q' n' c') vs' ls' ∧ I64 arm ∧ I64 fl ∧ I64 kp := by
  obtain ⟨cs, rfl, hs, m, xs, rfl, hx⟩ := dy_struct (n := 6) Try.underlying61 (by kernel_rfl) hv h
  obtain ⟨e0, e1, e2, e3, e4, e5, rfl⟩ : ∃ e0 e1 e2 e3 e4 e5, cs = #[e0, e1, e2, e3, e4, e5] := by
    refine ⟨cs[0], cs[1], cs[2], cs[3], cs[4], cs[5], ?_⟩
    apply Array.ext
    · simpa using hs
    · intro i h1 h2
      have : i = 0 ∨ i = 1 ∨ i = 2 ∨ i = 3 ∨ i = 4 ∨ i = 5 := by omega
      rcases this with rfl | rfl | rfl | rfl | rfl | rfl <;> rfl
  obtain ⟨x0, hx0, f0⟩ := hx 0 _ rfl
  obtain ⟨x1, hx1, f1⟩ := hx 1 _ rfl
  obtain ⟨x2, hx2, f2⟩ := hx 2 _ rfl
  obtain ⟨x3, hx3, f3⟩ := hx 3 _ rfl
  obtain ⟨x4, hx4, f4⟩ := hx 4 _ rfl
  obtain ⟨x5, hx5, f5⟩ := hx 5 _ rfl
  obtain ⟨q, n, c, vs, ls, ee0, hs0⟩ := listsZ f0 (fun n hn => hz n (by simp only [DataW.weights, Try.underlying61]; exact DataW.weights_mem_each (j := 0) rfl (by simp [hx0]) n hn))
  obtain rfl : e0 = .slice q n c := by have h9 : [e0] = [Value.slice q n c] := ee0; simpa using h9
  obtain ⟨q', n', c', vs', ls', ee1, hs1⟩ := listsZ f1 (fun n hn => hz n (by simp only [DataW.weights, Try.underlying61]; exact DataW.weights_mem_each (j := 1) rfl (by simp [hx1]) n hn))
  obtain rfl : e1 = .slice q' n' c' := by have h9 : [e1] = [Value.slice q' n' c'] := ee1; simpa using h9
  obtain ⟨rw, rfl⟩ := bool_of (e := e2) f2
  obtain ⟨arm, rfl, ha⟩ := i64_of (e := e3) f3
  obtain ⟨fl, rfl, hfl⟩ := i64_of (e := e4) f4
  obtain ⟨kp, rfl, hkp⟩ := i64_of (e := e5) f5
  exact ⟨q, n, c, vs, ls, q', n', c', vs', ls', rw, arm, fl, kp, rfl, hs0, hs1, ha, hfl, hkp⟩
/-- estuarylaw07.Torn. -/
theorem open_torn {r : Reach} {b0 : Nat} {v : Value} {d : DataW H} {p : List MemPlace} (hv : Value.okWide Try.prog w r b0 65 v) (h : DataW.Trod enc Try.prog w base spare held 65 v d p) (hz : ∀ n ∈ d.weights Try.prog 65, n ≤ reachBytes) :
    ∃ q n c vs ls q' n' c' l arm kp, v = .agg #[.slice q n c, .slice q' n' c', .int .i64 arm, .int .i64 kp] ∧ LsZ w (.slice q n c) vs ls ∧ SlZ w (.slice q' n' c') l ∧ I64 arm ∧ I64 kp := by
  obtain ⟨cs, rfl, hs, m, xs, rfl, hx⟩ := dy_struct (n := 4) Try.underlying65 (by kernel_rfl) hv h
  obtain ⟨e0, e1, e2, e3, rfl⟩ : ∃ e0 e1 e2 e3, cs = #[e0, e1, e2, e3] := by
    refine ⟨cs[0], cs[1], cs[2], cs[3], ?_⟩
    apply Array.ext
    · simpa using hs
    · intro i h1 h2
      have : i = 0 ∨ i = 1 ∨ i = 2 ∨ i = 3 := by omega
      rcases this with rfl | rfl | rfl | rfl <;> rfl
  obtain ⟨x0, hx0, f0⟩ := hx 0 _ rfl
  obtain ⟨x1, hx1, f1⟩ := hx 1 _ rfl
  obtain ⟨x2, hx2, f2⟩ := hx 2 _ rfl
  obtain ⟨x3, hx3, f3⟩ := hx 3 _ rfl
  obtain ⟨q, n, c, vs, ls, ee0, hs0⟩ := listsZ f0 (fun n hn => hz n (by simp only [DataW.weights, Try.underlying65]; exact DataW.weights_mem_each (j := 0) rfl (by simp [hx0]) n hn))
  obtain rfl : e0 = .slice q n c := by have h9 : [e0] = [Value.slice q n c] := ee0; simpa using h9
  obtain ⟨q', n', c', l, ee1, hs1⟩ := bytesZ f1 (fun n hn => hz n (by simp only [DataW.weights, Try.underlying65]; exact DataW.weights_mem_each (j := 1) rfl (by simp [hx1]) n hn))
  obtain rfl : e1 = .slice q' n' c' := by have h9 : [e1] = [Value.slice q' n' c'] := ee1; simpa using h9
  obtain ⟨arm, rfl, ha⟩ := i64_of (e := e2) f2
  obtain ⟨kp, rfl, hkp⟩ := i64_of (e := e3) f3
  exact ⟨q, n, c, vs, ls, q', n', c', l, arm, kp, rfl, hs0, hs1, ha, hkp⟩
end
end Go.Proofs.Ytalbiggmmmkclaa
