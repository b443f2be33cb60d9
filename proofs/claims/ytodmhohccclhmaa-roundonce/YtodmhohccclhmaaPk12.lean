/-
  What comes in, with its sizes: bytes and lists of bytes.
  What comes in to the laws on changes: numbers with their sizes, lists of numbers, changes, rows of changes, rows of registers.
  ballot.Prepare and ballot.Accept.
-/
import Derived.Test.YtodmhohccclhmaaPk11
import Derived.SizedLaws
import Derived.Test.YtodmhohccclhmaaPk10
import Derived.Test.YtodmhohccclhmaaPk09
namespace Go.Proofs.Ytodmhohccclhmaa
open Go.ChangeShapes Go.WideShapes Go.ChangeAt Go.RowKit
set_option linter.unusedVariables false
set_option maxRecDepth 100000

section
variable {H : Type} {enc : TypeId × Value → H} {w : World} {base : Nat} {spare : Nat → Bool} {held : Bool} {P : Program}
/-- A slice that came in is not longer than what a machine reaches. -/
theorem len_ofT {fuel : Nat} {t e : TypeId} {q : Option Addr} {len cap : Nat} {x : DataW H × List MemPlace} (ht : P.underlying t = some (.slice e)) (hf : DataW.trod enc P w base spare held fuel t [.slice q len cap] = some x) (hw : ∀ n ∈ x.1.weights P t, n ≤ reachBytes) : len * P.bytesOf e ≤ reachBytes := by
  rcases Deep.open_slice ht hf with ⟨hcs, _⟩ | ⟨a', len', cap', m, n', D', Pl, hcs, hb, hl, hm, hmm, rfl, hel⟩
  · simp at hcs
    obtain ⟨-, rfl, -⟩ := hcs
    simp
  · simp at hcs
    obtain ⟨rfl, rfl, rfl⟩ := hcs
    have h1 := hw ((len + (m - len)) * P.bytesOf e) (by simp [DataW.weights, ht])
    exact Nat.le_trans (Nat.mul_le_mul_right _ (by omega)) h1
theorem weights_mem_all {e : TypeId} : ∀ {l : List (DataW H)} {d : DataW H}, d ∈ l → ∀ n ∈ d.weights P e, n ∈ DataW.weightsAll P e l
  | d0 :: r, d, hd, n, hn => by
    simp only [DataW.weightsAll, List.mem_append]
    rcases List.mem_cons.1 hd with rfl | h
    · exact Or.inl hn
    · exact Or.inr (weights_mem_all h n hn)
/-- Bytes and how many they may be. -/
def SlZ (w : World) (v : Value) (l : List Nat) : Prop := Sl w v l ∧ Byt l ∧ l.length ≤ 140737488351232
def LsZ (w : World) (v : Value) (vs : List Value) (ls : List (List Nat)) : Prop := Ls w v vs ls ∧ (∀ l ∈ ls, Byt l ∧ l.length ≤ 140737488351232) ∧ ls.length ≤ 5864062014634
theorem dy_struct {r : Reach} {b0 n : Nat} {t : TypeId} {fs : Array Field} {v : Value} {d : DataW H} {p : List MemPlace} (hu : P.underlying t = some (.struct fs)) (hC : P.cellsOf t = n)
    (hv : Value.okWide P w r b0 t v) (h : DataW.Trod enc P w base spare held t v d p) :
    ∃ cs : Array Value, v = .agg cs ∧ cs.size = n ∧ ∃ m xs, d = .agg xs ∧ ∀ (i : Nat) (f : Field), fs[i]? = some f → ∃ x, xs[i]? = some x.1 ∧ DataW.trod enc P w base spare held m f.type ((cs.toList.drop f.offset).take (P.cellsOf f.type)) = some x := by
  obtain ⟨cs, rfl, hs⟩ : ∃ cs, v = .agg cs ∧ cs.size = P.cellsOf t := by
    simp only [Value.okWide, hu] at hv
    obtain ⟨cs, h1, h2, _⟩ := hv; exact ⟨cs, h1, h2⟩
  obtain ⟨fuel, hf⟩ := h
  obtain ⟨xs, m, _, he, _, hl, hx⟩ := DataW.trod_struct hu hf
  cases he
  refine ⟨cs, rfl, hs.trans hC, m, _, rfl, fun i f hi => ?_⟩
  have := hx i f hi
  have hlt : i < xs.length := by rw [hl]; exact (Array.getElem?_eq_some_iff.1 hi).1
  rw [List.getElem?_eq_getElem hlt] at this
  exact ⟨xs[i], by rw [List.getElem?_map, List.getElem?_eq_getElem hlt]; rfl, by simpa [Value.cells] using this⟩
/-- A number, a truth value that came in within a struct. -/
theorem i64_of {fuel : Nat} {e : Value} {x : DataW H × List MemPlace} (hf : DataW.trod enc Try.prog w base spare held fuel 3 [e] = some x) : ∃ a, e = .int .i64 a ∧ -9223372036854775808 ≤ a ∧ a ≤ 9223372036854775807 := by
  obtain ⟨a, e1, -, e2⟩ := DataW.trod_int Try.underlying3 hf
  exact ⟨a, by simpa using e1, bounds_i64 e2⟩
theorem bool_of {fuel : Nat} {e : Value} {x : DataW H × List MemPlace} (hf : DataW.trod enc Try.prog w base spare held fuel 4 [e] = some x) : ∃ a, e = .bool a := by
  obtain ⟨a, e1, -⟩ := DataW.trod_bool Try.underlying4 hf
  exact ⟨a, by simpa using e1⟩
abbrev I64 (a : Int) : Prop := -9223372036854775808 ≤ a ∧ a ≤ 9223372036854775807
end
end Go.Proofs.Ytodmhohccclhmaa
namespace Go.Proofs.Ytodmhohccclhmaa
open Go.ChangeShapes Go.WideShapes Go.ChangeAt Go.RowKit
set_option linter.unusedVariables false
set_option maxRecDepth 100000

section
variable {H : Type} {enc : TypeId × Value → H} {w : World} {base : Nat} {spare : Nat → Bool} {held : Bool}
/-- Numbers and how many they may be. -/
def IsZ (w : World) (v : Value) (l : List Int) : Prop := Is w v l ∧ l.length ≤ 17592186043904
theorem IsZ.keep {W W' : World} {v : Value} {l : List Int} (h : IsZ W v l) (hb : Below W.heap.size W W') : IsZ W' v l := ⟨h.1.keep hb, h.2⟩
theorem numsZ {fuel : Nat} {cs : List Value} {x : DataW H × List MemPlace} (hf : DataW.trod enc Try.prog w base spare held fuel 24 cs = some x) (hw : ∀ n ∈ x.1.weights Try.prog 24, n ≤ reachBytes) :
    ∃ q n cap l, cs = [.slice q n cap] ∧ IsZ w (.slice q n cap) l := by
  obtain ⟨q, g, off, len, cap, l, e, hl, hk, hm, hp, hg, hc⟩ := rows_of (n := 1) (D := 8) (fun _ => .i64) Try.underlying24 (by kernel_rfl) (by omega) (kinds_of (by kernel_rfl)) hf
  have hs := (is_rows hl hk hm hp hg hc).1
  subst e
  have z := len_ofT Try.underlying24 hf hw
  rw [show Try.prog.bytesOf 3 = 8 by kernel_rfl] at z
  unfold reachBytes at z
  have := hs.len
  exact ⟨q, len, cap, _, rfl, hs, by omega⟩
theorem open_numsZ {r : Reach} {b0 : Nat} {v : Value} {d : DataW H} {p : List MemPlace} (hv : Value.okWide Try.prog w r b0 24 v) (h : DataW.Trod enc Try.prog w base spare held 24 v d p) (hz : ∀ n ∈ d.weights Try.prog 24, n ≤ reachBytes) : ∃ l, IsZ w v l := by
  obtain ⟨a, len, cap, rfl⟩ := okWide_slice Try.underlying24 hv
  obtain ⟨fuel, hf⟩ := h
  obtain ⟨q, n, c, l, e, hs⟩ := numsZ hf hz
  have e1 : (Value.slice a len cap) = .slice q n c := by simpa [Value.cells] using e
  rw [e1]
  exact ⟨l, hs⟩
/-- A change. -/
structure CgD where
  k : Int
  vo : Value
  o : List Int
  vn : Value
  n : List Int
set_option maxHeartbeats 1000000 in
theorem open_change {r : Reach} {b0 : Nat} {v : Value} {d : DataW H} {p : List MemPlace} (hv : Value.okWide Try.prog w r b0 26 v) (h : DataW.Trod enc Try.prog w base spare held 26 v d p) (hz : ∀ n ∈ d.weights Try.prog 26, n ≤ reachBytes) :
    ∃ x : CgD, v = cgV x.k x.vo x.vn ∧ IsZ w x.vo x.o ∧ IsZ w x.vn x.n := by
  obtain ⟨cs, rfl, hs, m, xs, rfl, hx⟩ := dy_struct (n := 3) Try.underlying26 (by kernel_rfl) hv h
  obtain ⟨x0, g0, f0⟩ := hx 0 _ rfl
  obtain ⟨x1, g1, f1⟩ := hx 1 _ rfl
  obtain ⟨x2, g2, f2⟩ := hx 2 _ rfl
  obtain ⟨e0, e1, e2, rfl⟩ : ∃ e0 e1 e2, cs = #[e0, e1, e2] := by
    refine ⟨cs[0], cs[1], cs[2], ?_⟩
    apply Array.ext
    · simpa using hs
    · intro i h1 h2
      have : i = 0 ∨ i = 1 ∨ i = 2 := by omega
      rcases this with rfl | rfl | rfl <;> rfl
  obtain ⟨k0, rfl, -⟩ := i64_of (e := e0) f0
  obtain ⟨q1, n1, c1, l1, ee1, hs1⟩ := numsZ f1 (fun n hn => hz n (by simp only [DataW.weights, Try.underlying26]; exact DataW.weights_mem_each (j := 1) rfl g1 n hn))
  obtain ⟨q2, n2, c2, l2, ee2, hs2⟩ := numsZ f2 (fun n hn => hz n (by simp only [DataW.weights, Try.underlying26]; exact DataW.weights_mem_each (j := 2) rfl g2 n hn))
  have h9 : [e1] = [Value.slice q1 n1 c1] := ee1
  obtain rfl : e1 = .slice q1 n1 c1 := by simpa using h9
  have h8 : [e2] = [Value.slice q2 n2 c2] := ee2
  obtain rfl : e2 = .slice q2 n2 c2 := by simpa using h8
  exact ⟨⟨k0, .slice q1 n1 c1, l1, .slice q2 n2 c2, l2⟩, rfl, hs1, hs2⟩
/-- A row of changes in memory. -/
structure CgAt (W : World) (g o : Nat) (x : CgD) : Prop where
  c0 : W.cell? ⟨g, o, none⟩ = some (.int .i64 x.k)
  c1 : W.cell? ⟨g, o + 1, none⟩ = some x.vo
  c2 : W.cell? ⟨g, o + 2, none⟩ = some x.vn
  so : IsZ W x.vo x.o
  sn : IsZ W x.vn x.n
theorem CgAt.keep {W W' : World} {g o : Nat} {x : CgD} (h : CgAt W g o x) (hg : g < W.heap.size) (hb : Below W.heap.size W W') : CgAt W' g o x :=
  ⟨keep_cell hb h.c0 hg, keep_cell hb h.c1 hg, keep_cell hb h.c2 hg, h.so.keep hb, h.sn.keep hb⟩
structure CgRow (W : World) (q : Option Addr) (n cap g off : Nat) (os : List CgD) : Prop where
  len : os.length = n
  fits : n ≤ cap
  max : cap ≤ 9223372036854775807
  ptr : 0 < n → q = some ⟨g, off, none⟩
  lt : 0 < n → g < W.heap.size
  row : ∀ j x, os[j]? = some x → CgAt W g (off + j * 3) x
set_option maxHeartbeats 1000000 in
theorem open_changes {r : Reach} {b0 : Nat} {v : Value} {d : DataW H} {p : List MemPlace} (hv : Value.okWide Try.prog w r b0 39 v) (h : DataW.Trod enc Try.prog w base spare held 39 v d p) (hz : ∀ n ∈ d.weights Try.prog 39, n ≤ reachBytes) :
    ∃ (q : Option Addr) (n cap g off : Nat) (os : List CgD), v = .slice q n cap ∧ CgRow w q n cap g off os := by
  obtain ⟨a, len, cap, rfl⟩ := okWide_slice Try.underlying39 hv
  obtain ⟨fuel, hf⟩ := h
  rcases Deep.open_slice Try.underlying39 hf with ⟨hcs, _⟩ | ⟨a', len', cap', m, n', D', Pl, hcs, hb, hl, hm, hmm, hx, hel⟩
  · have e1 : (Value.slice a len cap) = .slice none 0 0 := by simpa [Value.cells] using hcs
    cases e1
    exact ⟨none, 0, 0, 0, 0, [], rfl, rfl, by omega, by omega, fun h => absurd h (by omega), fun h => absurd h (by omega), fun j c hc => by simp at hc⟩
  · have e1 : (Value.slice a len cap) = .slice (some a') len' cap' := by simpa [Value.cells] using hcs
    cases e1
    have hle : len ≤ m := by rw [hmm]; split <;> omega
    have hxd : d = .slice ((List.range len).map D') ((List.range (m - len)).map fun j => D' (len + j)) := congrArg Prod.fst hx
    subst hxd
    have key : ∀ j, j < len → ∃ x : CgD, w.cell? ((a'.add (j * 3)).add 0) = some (.int .i64 x.k) ∧ w.cell? ((a'.add (j * 3)).add 1) = some x.vo ∧ w.cell? ((a'.add (j * 3)).add 2) = some x.vn ∧ IsZ w x.vo x.o ∧ IsZ w x.vn x.n := by
      intro j hj
      obtain ⟨cs', h1, h2⟩ := hel j (by omega)
      rw [show Try.prog.cellsOf 26 = 3 by kernel_rfl] at h1
      obtain ⟨_, h3, h4⟩ := World.cells?_some h1
      have hzj : ∀ n ∈ (D' j).weights Try.prog 26, n ≤ reachBytes := fun n hn => hz n (by
        simp only [DataW.weights, Try.underlying39]
        exact List.mem_cons_of_mem _ (List.mem_append_left _ (weights_mem_all (List.mem_map.2 ⟨j, List.mem_range.2 hj, rfl⟩) n hn)))
      obtain ⟨xs, m', _, hxe, _, hxl, hxx⟩ := DataW.trod_struct Try.underlying26 h2
      have hxe1 : D' j = .agg (xs.map (·.1)) := congrArg Prod.fst hxe
      rw [hxe1] at hzj
      have hf0 := hxx 0 _ rfl
      have hf1 := hxx 1 _ rfl
      have hf2 := hxx 2 _ rfl
      have hsz : xs.length = 3 := hxl
      rw [List.getElem?_eq_getElem (by omega)] at hf0 hf1 hf2
      obtain ⟨e0, e1, e2, rfl⟩ : ∃ e0 e1 e2, cs' = [e0, e1, e2] := by
        match cs', h3 with
        | [e0, e1, e2], _ => exact ⟨e0, e1, e2, rfl⟩
      obtain ⟨k0, rfl, w0⟩ := i64_of (e := e0) hf0
      obtain ⟨q1, n1, c1, l1, ee1, hs1⟩ := numsZ hf1 (fun n hn => hzj n (by simp only [DataW.weights, Try.underlying26]; exact DataW.weights_mem_each (j := 1) rfl (by rw [List.getElem?_map, List.getElem?_eq_getElem (by omega)]; rfl) n hn))
      obtain ⟨q2, n2, c2, l2, ee2, hs2⟩ := numsZ hf2 (fun n hn => hzj n (by simp only [DataW.weights, Try.underlying26]; exact DataW.weights_mem_each (j := 2) rfl (by rw [List.getElem?_map, List.getElem?_eq_getElem (by omega)]; rfl) n hn))
      have h9 : [e1] = [Value.slice q1 n1 c1] := ee1
      obtain rfl : e1 = .slice q1 n1 c1 := by simpa using h9
      have h8 : [e2] = [Value.slice q2 n2 c2] := ee2
      obtain rfl : e2 = .slice q2 n2 c2 := by simpa using h8
      exact ⟨⟨k0, .slice q1 n1 c1, l1, .slice q2 n2 c2, l2⟩, h4 0 (by omega), h4 1 (by omega), h4 2 (by omega), hs1, hs2⟩
    haveI : Inhabited CgD := ⟨⟨0, .nilIface, [], .nilIface, []⟩⟩
    obtain ⟨L, hL⟩ := Deep.choose_lt key
    have hspot : 0 < len → a'.spot = none := fun h0 => by
      have h1 := (hL 0 h0).1
      have := spot_of_cell h1
      rw [Nat.zero_mul] at this
      simpa [Addr.add] using this
    refine ⟨some a', len, cap, a'.block, a'.off, (List.range len).map L, rfl, ⟨by simp, hl, hm, fun h0 => ?_, fun h0 => ?_, fun j x hx => ?_⟩⟩
    · have hs := hspot h0
      obtain ⟨b, o, s⟩ := a'; cases hs; rfl
    · have := World.block_lt_of_cell? w _ (hL 0 h0).1
      simpa [Addr.add] using this
    · have hj : j < len := by have := (List.getElem?_eq_some_iff.1 hx).1; simpa using this
      have hxj : x = L j := by simp [hj] at hx; exact hx.symm
      subst hxj
      have hs := hspot (by omega)
      obtain ⟨h0, h1, h2, h3, h4⟩ := hL j hj
      rw [add_plain _ hs, add_plain _ rfl] at h0 h1 h2
      exact ⟨h0, h1, h2, h3, h4⟩
/-- A row of registers in memory. -/
structure RrD where
  p : Bt
  a : Bt
  v : Value
  l : List Int
structure RrAt (W : World) (g o : Nat) (x : RrD) : Prop where
  c0 : W.cell? ⟨g, o, none⟩ = some (.int .i64 x.p.n)
  c1 : W.cell? ⟨g, o + 1, none⟩ = some (.int .i64 x.p.nd)
  c2 : W.cell? ⟨g, o + 2, none⟩ = some (.int .i64 x.p.lf)
  c3 : W.cell? ⟨g, o + 3, none⟩ = some (.int .i64 x.a.n)
  c4 : W.cell? ⟨g, o + 4, none⟩ = some (.int .i64 x.a.nd)
  c5 : W.cell? ⟨g, o + 5, none⟩ = some (.int .i64 x.a.lf)
  c6 : W.cell? ⟨g, o + 6, none⟩ = some x.v
  sl : IsZ W x.v x.l
theorem RrAt.keep {W W' : World} {g o : Nat} {x : RrD} (h : RrAt W g o x) (hg : g < W.heap.size) (hb : Below W.heap.size W W') : RrAt W' g o x :=
  ⟨keep_cell hb h.c0 hg, keep_cell hb h.c1 hg, keep_cell hb h.c2 hg, keep_cell hb h.c3 hg, keep_cell hb h.c4 hg, keep_cell hb h.c5 hg, keep_cell hb h.c6 hg, h.sl.keep hb⟩
structure RrRow (W : World) (q : Option Addr) (n cap g off : Nat) (os : List RrD) : Prop where
  len : os.length = n
  fits : n ≤ cap
  max : cap ≤ 9223372036854775807
  ptr : 0 < n → q = some ⟨g, off, none⟩
  lt : 0 < n → g < W.heap.size
  row : ∀ j x, os[j]? = some x → RrAt W g (off + j * 7) x
theorem RrRow.keep {W W' : World} {q : Option Addr} {n cap g off : Nat} {os : List RrD} (h : RrRow W q n cap g off os) (hb : Below W.heap.size W W') : RrRow W' q n cap g off os :=
  ⟨h.len, h.fits, h.max, h.ptr, fun h0 => Nat.lt_of_lt_of_le (h.lt h0) hb.size, fun j x hx => (h.row j x hx).keep (h.lt (by have := (List.getElem?_eq_some_iff.1 hx).1; have := h.len; omega)) hb⟩
theorem CgRow.keep {W W' : World} {q : Option Addr} {n cap g off : Nat} {os : List CgD} (h : CgRow W q n cap g off os) (hb : Below W.heap.size W W') : CgRow W' q n cap g off os :=
  ⟨h.len, h.fits, h.max, h.ptr, fun h0 => Nat.lt_of_lt_of_le (h.lt h0) hb.size, fun j x hx => (h.row j x hx).keep (h.lt (by have := (List.getElem?_eq_some_iff.1 hx).1; have := h.len; omega)) hb⟩
set_option maxHeartbeats 1000000 in
theorem open_regs {r : Reach} {b0 : Nat} {v : Value} {d : DataW H} {p : List MemPlace} (hv : Value.okWide Try.prog w r b0 36 v) (h : DataW.Trod enc Try.prog w base spare held 36 v d p) (hz : ∀ n ∈ d.weights Try.prog 36, n ≤ reachBytes) :
    ∃ (q : Option Addr) (n cap g off : Nat) (os : List RrD), v = .slice q n cap ∧ RrRow w q n cap g off os := by
  obtain ⟨a, len, cap, rfl⟩ := okWide_slice Try.underlying36 hv
  obtain ⟨fuel, hf⟩ := h
  rcases Deep.open_slice Try.underlying36 hf with ⟨hcs, _⟩ | ⟨a', len', cap', m, n', D', Pl, hcs, hb, hl, hm, hmm, hx, hel⟩
  · have e1 : (Value.slice a len cap) = .slice none 0 0 := by simpa [Value.cells] using hcs
    cases e1
    exact ⟨none, 0, 0, 0, 0, [], rfl, rfl, by omega, by omega, fun h => absurd h (by omega), fun h => absurd h (by omega), fun j c hc => by simp at hc⟩
  · have e1 : (Value.slice a len cap) = .slice (some a') len' cap' := by simpa [Value.cells] using hcs
    cases e1
    have hle : len ≤ m := by rw [hmm]; split <;> omega
    have hxd : d = .slice ((List.range len).map D') ((List.range (m - len)).map fun j => D' (len + j)) := congrArg Prod.fst hx
    subst hxd
    have key : ∀ j, j < len → ∃ x : RrD, w.cell? ((a'.add (j * 7)).add 0) = some (.int .i64 x.p.n) ∧ w.cell? ((a'.add (j * 7)).add 1) = some (.int .i64 x.p.nd) ∧ w.cell? ((a'.add (j * 7)).add 2) = some (.int .i64 x.p.lf) ∧ w.cell? ((a'.add (j * 7)).add 3) = some (.int .i64 x.a.n) ∧ w.cell? ((a'.add (j * 7)).add 4) = some (.int .i64 x.a.nd) ∧ w.cell? ((a'.add (j * 7)).add 5) = some (.int .i64 x.a.lf) ∧ w.cell? ((a'.add (j * 7)).add 6) = some x.v ∧ IsZ w x.v x.l := by
      intro j hj
      obtain ⟨cs', h1, h2⟩ := hel j (by omega)
      rw [show Try.prog.cellsOf 61 = 7 by kernel_rfl] at h1
      obtain ⟨_, h3, h4⟩ := World.cells?_some h1
      have hzj : ∀ n ∈ (D' j).weights Try.prog 61, n ≤ reachBytes := fun n hn => hz n (by
        simp only [DataW.weights, Try.underlying36]
        exact List.mem_cons_of_mem _ (List.mem_append_left _ (weights_mem_all (List.mem_map.2 ⟨j, List.mem_range.2 hj, rfl⟩) n hn)))
      obtain ⟨xs, m', _, hxe, _, hxl, hxx⟩ := DataW.trod_struct Try.underlying61 h2
      have hxe1 : D' j = .agg (xs.map (·.1)) := congrArg Prod.fst hxe
      rw [hxe1] at hzj
      have hf0 := hxx 0 _ rfl
      have hf1 := hxx 1 _ rfl
      have hf2 := hxx 2 _ rfl
      have hsz : xs.length = 3 := hxl
      rw [List.getElem?_eq_getElem (by omega)] at hf0 hf1 hf2
      obtain ⟨e0, e1, e2, e3, e4, e5, e6, rfl⟩ : ∃ e0 e1 e2 e3 e4 e5 e6, cs' = [e0, e1, e2, e3, e4, e5, e6] := by
        match cs', h3 with
        | [e0, e1, e2, e3, e4, e5, e6], _ => exact ⟨e0, e1, e2, e3, e4, e5, e6, rfl⟩
      obtain ⟨k0, f0, -⟩ := flat_cell 8 _ 23 _ _ 0 .i64 hf0 (by kernel_rfl)
      obtain ⟨k1, f1, -⟩ := flat_cell 8 _ 23 _ _ 1 .i64 hf0 (by kernel_rfl)
      obtain ⟨k2, f2, -⟩ := flat_cell 8 _ 23 _ _ 2 .i64 hf0 (by kernel_rfl)
      obtain ⟨k3, f3, -⟩ := flat_cell 8 _ 23 _ _ 0 .i64 hf1 (by kernel_rfl)
      obtain ⟨k4, f4, -⟩ := flat_cell 8 _ 23 _ _ 1 .i64 hf1 (by kernel_rfl)
      obtain ⟨k5, f5, -⟩ := flat_cell 8 _ 23 _ _ 2 .i64 hf1 (by kernel_rfl)
      obtain rfl : e0 = .int .i64 k0 := by have h9 : ([e0, e1, e2] : List Value)[0]? = some (Value.int .i64 k0) := f0; simpa using h9
      obtain rfl : e1 = .int .i64 k1 := by have h9 : ([Value.int .i64 k0, e1, e2] : List Value)[1]? = some (Value.int .i64 k1) := f1; simpa using h9
      obtain rfl : e2 = .int .i64 k2 := by have h9 : ([Value.int .i64 k0, .int .i64 k1, e2] : List Value)[2]? = some (Value.int .i64 k2) := f2; simpa using h9
      obtain rfl : e3 = .int .i64 k3 := by have h9 : ([e3, e4, e5] : List Value)[0]? = some (Value.int .i64 k3) := f3; simpa using h9
      obtain rfl : e4 = .int .i64 k4 := by have h9 : ([Value.int .i64 k3, e4, e5] : List Value)[1]? = some (Value.int .i64 k4) := f4; simpa using h9
      obtain rfl : e5 = .int .i64 k5 := by have h9 : ([Value.int .i64 k3, .int .i64 k4, e5] : List Value)[2]? = some (Value.int .i64 k5) := f5; simpa using h9
      obtain ⟨q1, n1, c1, l1, ee1, hs1⟩ := numsZ hf2 (fun n hn => hzj n (by simp only [DataW.weights, Try.underlying61]; exact DataW.weights_mem_each (j := 2) rfl (by rw [List.getElem?_map, List.getElem?_eq_getElem (by omega)]; rfl) n hn))
      have h9 : [e6] = [Value.slice q1 n1 c1] := ee1
      obtain rfl : e6 = .slice q1 n1 c1 := by simpa using h9
      exact ⟨⟨⟨k0, k1, k2⟩, ⟨k3, k4, k5⟩, .slice q1 n1 c1, l1⟩, h4 0 (by omega), h4 1 (by omega), h4 2 (by omega), h4 3 (by omega), h4 4 (by omega), h4 5 (by omega), h4 6 (by omega), hs1⟩
    haveI : Inhabited RrD := ⟨⟨zB, zB, .nilIface, []⟩⟩
    obtain ⟨L, hL⟩ := Deep.choose_lt key
    have hspot : 0 < len → a'.spot = none := fun h0 => by
      have h1 := (hL 0 h0).1
      have := spot_of_cell h1
      rw [Nat.zero_mul] at this
      simpa [Addr.add] using this
    refine ⟨some a', len, cap, a'.block, a'.off, (List.range len).map L, rfl, ⟨by simp, hl, hm, fun h0 => ?_, fun h0 => ?_, fun j x hx => ?_⟩⟩
    · have hs := hspot h0
      obtain ⟨b, o, s⟩ := a'; cases hs; rfl
    · have := World.block_lt_of_cell? w _ (hL 0 h0).1
      simpa [Addr.add] using this
    · have hj : j < len := by have := (List.getElem?_eq_some_iff.1 hx).1; simpa using this
      have hxj : x = L j := by simp [hj] at hx; exact hx.symm
      subst hxj
      have hs := hspot (by omega)
      obtain ⟨h0, h1, h2, h3, h4, h5, h6, h7⟩ := hL j hj
      rw [add_plain _ hs, add_plain _ rfl] at h0 h1 h2 h3 h4 h5 h6
      exact ⟨h0, h1, h2, h3, h4, h5, h6, h7⟩
/-- A row of lists of numbers in memory. -/
structure NlRow (W : World) (q : Option Addr) (n cap g off : Nat) (os : List (Value × List Int)) : Prop where
  len : os.length = n
  fits : n ≤ cap
  max : cap ≤ 9223372036854775807
  ptr : 0 < n → q = some ⟨g, off, none⟩
  lt : 0 < n → g < W.heap.size
  row : ∀ j x, os[j]? = some x → W.cell? ⟨g, off + j, none⟩ = some x.1 ∧ IsZ W x.1 x.2
set_option maxHeartbeats 1000000 in
theorem open_nlists {r : Reach} {b0 : Nat} {v : Value} {d : DataW H} {p : List MemPlace} (hv : Value.okWide Try.prog w r b0 53 v) (h : DataW.Trod enc Try.prog w base spare held 53 v d p) (hz : ∀ n ∈ d.weights Try.prog 53, n ≤ reachBytes) :
    ∃ (q : Option Addr) (n cap g off : Nat) (os : List (Value × List Int)), v = .slice q n cap ∧ NlRow w q n cap g off os := by
  obtain ⟨a, len, cap, rfl⟩ := okWide_slice Try.underlying53 hv
  obtain ⟨fuel, hf⟩ := h
  rcases Deep.open_slice1 Try.underlying53 (by kernel_rfl) hf with ⟨hcs, _⟩ | ⟨a', len', cap', m, n', V, D', Pl, hcs, hb, hl, hm, hmm, hx, hel⟩
  · have e1 : (Value.slice a len cap) = .slice none 0 0 := by simpa [Value.cells] using hcs
    cases e1
    exact ⟨none, 0, 0, 0, 0, [], rfl, rfl, by omega, by omega, fun h => absurd h (by omega), fun h => absurd h (by omega), fun j c hc => by simp at hc⟩
  · have e1 : (Value.slice a len cap) = .slice (some a') len' cap' := by simpa [Value.cells] using hcs
    cases e1
    have hle : len ≤ m := by rw [hmm]; split <;> omega
    have hxd : d = .slice ((List.range len).map D') ((List.range (m - len)).map fun j => D' (len + j)) := congrArg Prod.fst hx
    subst hxd
    have key : ∀ j, j < len → ∃ x : Value × List Int, w.cell? (a'.add j) = some x.1 ∧ IsZ w x.1 x.2 := fun j hj => by
      obtain ⟨h1, h2⟩ := hel j (by omega)
      obtain ⟨q, n, c, l, e, hs⟩ := numsZ h2 (fun n hn => hz n (by
        simp only [DataW.weights, Try.underlying53]
        exact List.mem_cons_of_mem _ (List.mem_append_left _ (weights_mem_all (List.mem_map.2 ⟨j, List.mem_range.2 hj, rfl⟩) n hn))))
      have e2 : V j = .slice q n c := by simpa using e
      rw [e2] at h1
      exact ⟨⟨.slice q n c, l⟩, h1, hs⟩
    haveI : Inhabited (Value × List Int) := ⟨⟨.nilIface, []⟩⟩
    obtain ⟨L, hL⟩ := Deep.choose_lt key
    have hspot : 0 < len → a'.spot = none := fun h0 => by
      have h1 := (hL 0 h0).1
      have := spot_of_cell h1
      simpa [Addr.add] using this
    refine ⟨some a', len, cap, a'.block, a'.off, (List.range len).map L, rfl, ⟨by simp, hl, hm, fun h0 => ?_, fun h0 => ?_, fun j x hx => ?_⟩⟩
    · have hs := hspot h0
      obtain ⟨b, o, s⟩ := a'; cases hs; rfl
    · have := World.block_lt_of_cell? w _ (hL 0 h0).1
      simpa [Addr.add] using this
    · have hj : j < len := by have := (List.getElem?_eq_some_iff.1 hx).1; simpa using this
      have hxj : x = L j := by simp [hj] at hx; exact hx.symm
      subst hxj
      have hs := hspot (by omega)
      obtain ⟨h0, h1⟩ := hL j hj
      rw [add_plain _ hs] at h0
      exact ⟨h0, h1⟩
end
end Go.Proofs.Ytodmhohccclhmaa
namespace Go.Proofs.Ytodmhohccclhmaa
open Go.RowKit
set_option linter.unusedVariables false
set_option maxRecDepth 100000

theorem gd_le {r : Rg} (h : gdR r = true) : r.l.length ≤ 32 := by
  refine Classical.byContradiction fun hn => ?_
  unfold gdR at h
  rw [gd_0 hn] at h
  cases h
theorem Io.nil (W : World) (base : Nat) : Io W base (.slice none 0 0) [] := own_nil W base
/-- What a call that answers a register and an error answers. -/
def RgE (W : World) (base : Nat) (r : Rg) (x : Value) (e : Ending) : Prop := ∃ q n c, e = .returned (.tuple #[rV r.p r.a (.slice q n c), x]) ∧ Io W base (.slice q n c) r.l ∧ r.l.length = n
theorem rge_zero (W : World) (base : Nat) (r : Rg) (x y : Value) (hr : r = zR) (hx : x = y) : RgE W base r x (.returned (.tuple #[rV zB zB (.slice none 0 0), y])) := by
  subst hr hx
  exact ⟨none, 0, 0, rfl, Io.nil _ _, rfl⟩
theorem rge_of {W : World} {base : Nat} {p a : Bt} {l : List Int} {v : Value} (r : Rg) (x y : Value) (hr : r = ⟨p, a, l⟩) (hx : x = y) (hv : Io W base v l) : RgE W base r x (.returned (.tuple #[rV p a v, y])) := by
  subst hr hx
  obtain ⟨q, c, e⟩ := hv.is.form
  rw [e] at hv ⊢
  exact ⟨q, _, c, rfl, hv, rfl⟩
theorem rg_one (p a : Bt) (q : Option Addr) (n c : Nat) : (rC p a (.slice q n c)).all (·.oneCell') = true := by simp [Value.oneCell']
theorem bt_one (b : Bt) : (bC b).all (·.oneCell') = true := by simp [Value.oneCell']
section
variable {ops : Array Oper} {rest : List Oper} {o : Oper} {a : Act} {w : World} {Q : Exit → Act → World → Prop}
/-- A register into its box. -/
theorem st_rg (hgd : o.guard = none) {x y : Operand} (ho : o.op = .store 61 x y) {g : Nat} {p0 a0 p1 a1 : Bt} {v0 : Value} {q : Option Addr} {n c : Nat} {t : TypeId} (hB : Blk w g (rC p0 a0 v0) t) (hx : a.eval x = .pointer (some ⟨g, 0, none⟩)) (hy : a.eval y = rV p1 a1 (.slice q n c))
    (h : ∀ W', Blk W' g (rC p1 a1 (.slice q n c)) t → Chg g w W' → wpList Try.prog ops Q rest (a.put o.dst undef) W') : wpList Try.prog ops Q (o :: rest) a w :=
  st_blk hgd ho hB hx hy (info_rg p1 a1 _) rfl (rg_one _ _ _ _ _) h
end
set_option maxHeartbeats 1000000 in
theorem prepare_any (r : Rg) (b : Bt) (v : Value) (w : World) (hv : Is w v r.l) :
    Calls Try.prog 37 #[rV r.p r.a v, bV b] w fun e w' => RgE w' w.heap.size (prR r b) (errV (prN r b)) e ∧ Below w.heap.size w w' := by
  obtain ⟨q, c, e⟩ := hv.form
  subst e
  obtain ⟨n, hn⟩ : ∃ n, r.l.length = n := ⟨_, rfl⟩
  rw [hn] at hv ⊢
  have HG : gdN r.p r.a n = gdR r := by unfold gdR; rw [hn]
  go_enter Try.func37, Try.ntmps37
  go_upto_region 1 with fail
  obtain ⟨A, hAe, hB0, hB1, hB2, hw⟩ := blk3 w (rC r.p r.a (.slice q n c)) (bC b) (rC zB zB (.slice none 0 0)) 61 23 61
  rw [show ((w.alloc (.cells (rC r.p r.a (.slice q n c)) 61)).alloc (.cells (bC b) 23)).alloc (.cells #[.int .i64 0, .int .i64 0, .int .i64 0, .int .i64 0, .int .i64 0, .int .i64 0, .slice none 0 0] 61) = A from hAe]
  obtain ⟨c0, c1, c2, c3, c4, c5, c6⟩ := cells7 hB0
  obtain ⟨d0, d1, d2⟩ := cells3 hB1
  have hbv := Below.refl A.heap.size A
  clear hAe
  go_wp2_with fail
  refine (good9_any r.p r.a q n c _).mono ?_
  rintro e W1 ⟨rfl, b1⟩
  rw [HG]
  have hbv := ab_trans hbv b1
  cases h1 : gdR r
  · have HN : Hid (prN r b = 2) := prN_form (by rw [h1]; rfl)
    have hB := hB2.keep hbv
    have hwv := ab_trans hw hbv
    clear hB2
    go_wp2_with (refine st_rg rfl rfl (p1 := zB) (a1 := zB) hB rfl rfl ?_; intro W5 hB5 C5)
    exact bodyPost_ret (results_c2 rfl _ _ _ 61 _ (0, 0) _ _ rfl rfl hB5 Try.underlying61 rfl (info_rg zB zB _)) rfl ⟨rge_zero _ _ _ _ _ (prR_no (by rw [HN.out]; decide)) (by rw [HN.out]; rfl), ab_chg hwv C5 (by omega)⟩
  · go_wp2_with fail
    refine (asks_any b _).mono ?_
    rintro e W2 ⟨rfl, b2⟩
    have hbv := ab_trans hbv b2
    cases h2 : asB b
    · have HN : Hid (prN r b = 2) := prN_form (by rw [h1, h2]; rfl)
      have hB := hB2.keep hbv
      have hwv := ab_trans hw hbv
      clear hB2
      go_wp2_with (refine st_rg rfl rfl (p1 := zB) (a1 := zB) hB rfl rfl ?_; intro W5 hB5 C5)
      exact bodyPost_ret (results_c2 rfl _ _ _ 61 _ (0, 0) _ _ rfl rfl hB5 Try.underlying61 rfl (info_rg zB zB _)) rfl ⟨rge_zero _ _ _ _ _ (prR_no (by rw [HN.out]; decide)) (by rw [HN.out]; rfl), ab_chg hwv C5 (by omega)⟩
    · go_wp2_with fail
      refine (bless_any r.p b _).mono ?_
      rintro e W3 ⟨rfl, b3⟩
      have hbv := ab_trans hbv b3
      cases h3 : lt3 r.p b
      · have HN : Hid (prN r b = 11) := prN_stale (by rw [h1, h2]; rfl) h3
        have hB := hB2.keep hbv
        have hwv := ab_trans hw hbv
        clear hB2
        go_wp2_with (refine st_rg rfl rfl (p1 := zB) (a1 := zB) hB rfl rfl ?_; intro W5 hB5 C5)
        exact bodyPost_ret (results_c2 rfl _ _ _ 61 _ (0, 0) _ _ rfl rfl hB5 Try.underlying61 rfl (info_rg zB zB _)) rfl ⟨rge_zero _ _ _ _ _ (prR_no (by rw [HN.out]; decide)) (by rw [HN.out]; rfl), ab_chg hwv C5 (by omega)⟩
      · have HN : Hid (prN r b = 0) := prN_ok (by rw [h1, h2]; rfl) h3
        have HL : Hid (r.l.length ≤ 32) := gd_le h1
        have hB := hB2.keep hbv
        have hX := hB0.keep hbv
        have hY := hB1.keep hbv
        have hwv := ab_trans hw hbv
        have hvv := hv.keep hwv
        clear hB2 hB0 hB1 hv c0 c1 c2 c3 c4 c5 c6 d0 d1 d2 b1 b2 b3 hbv
        go_upto_region 5 with fail
        refine wp_region_held_drew (S := fun w' => Below w.heap.size w w' ∧ Blk w' w.heap.size (rC r.p r.a (.slice q n c)) 61 ∧ Blk w' (w.heap.size + 1) (bC b) 23) (by kernel_rfl) ⟨ab_drew hwv, hX.drew, hY.drew⟩ (fun hHeld => ?_)
        refine takeH (i := 0) (some 23) rfl rfl (by kernel_rfl) (by kernel_rfl) (by kernel_rfl) (fun _ _ _ h => h) (by rfl) (fun w hSw => by (try dsimp only at hSw); have y0 := hSw.2.2.at (i := 0) rfl; have y1 := hSw.2.2.at (i := 1) rfl; have y2 := hSw.2.2.at (i := 2) rfl; go_simp; try rfl) hHeld ?_
        go_frame
        refine takeH (i := 1) (some 24) rfl rfl (by kernel_rfl) (by kernel_rfl) (by kernel_rfl) (fun _ _ _ h => h) (by rfl) (fun w hSw => by (try dsimp only at hSw); go_simp; try rfl) hHeld ?_
        go_frame
        refine takeH (i := 2) (some 25) rfl rfl (by kernel_rfl) (by kernel_rfl) (by kernel_rfl) (fun _ _ _ h => h) (by rfl) (fun w hSw => by (try dsimp only at hSw); have y0 := hSw.2.1.at (i := 3) rfl; have y1 := hSw.2.1.at (i := 4) rfl; have y2 := hSw.2.1.at (i := 5) rfl; go_simp; try rfl) hHeld ?_
        go_frame
        refine takeH (i := 3) (some 26) rfl rfl (by kernel_rfl) (by kernel_rfl) (by kernel_rfl) (fun _ _ _ h => h) (by rfl) (fun w hSw => by (try dsimp only at hSw); go_simp; try rfl) hHeld ?_
        go_frame
        refine takeH (i := 4) (some 27) rfl rfl (by kernel_rfl) (by kernel_rfl) (by kernel_rfl) (fun _ _ _ h => h) (by rfl) (fun w hSw => by (try dsimp only at hSw); have y0 := hSw.2.1.at (i := 6) rfl; go_simp; try rfl) hHeld ?_
        go_frame
        refine wpAnyH_ready (rs := [5]) (by kernel_rfl) (by simp) (AllReadyH.cons rfl (fun K hK => ?_) AllReadyH.nil)
        go_simp
        refine (bclone_any _ r.l _ (hvv.keep (ab_drew (Below.refl _ _))) (by have := HL.out; omega)).mono ?_
        rintro e W4 ⟨v4, rfl, hO4, b4⟩
        show K _ _
        have hw4 : Below w.heap.size w W4 := ab_trans hHeld.1 b4
        have hX4 := hHeld.2.1.keep b4
        have hY4 := hHeld.2.2.keep b4
        have hB4 := hB.drew.keep b4
        obtain ⟨q4, c4, e4⟩ := hO4.is.form
        rw [hn] at e4
        subst e4
        refine hK.out _ _ ⟨hw4, hX4, hY4⟩ (fun hHeld => ?_)
        clear hK K
        refine takeH (i := 6) (some 29) rfl rfl (by kernel_rfl) (by kernel_rfl) (by kernel_rfl) (fun _ _ _ h => h) (by rfl) (fun w hSw => by (try dsimp only at hSw); go_simp; try rfl) hHeld ?_
        go_frame
        refine wpAnyH_ready (rs := [7]) (by kernel_rfl) (by simp) (AllReadyH.cons rfl (fun K hK => ?_) AllReadyH.nil)
        rw [if_pos (by rfl)]
        refine stW none rfl rfl hB4 rfl rfl (info_rg b r.a (.slice q4 n c4)) rfl (rg_one _ _ _ _ _) fun W5 hB5 C5 => ?_
        have hw5 := ab_chg hw4 C5 (by omega)
        have hO5 : Io W5 W3.drew.heap.size (.slice q4 n c4) r.l := own_chgT hO4 C5 (fun e => by have h1 := (hO4.lt _ e).1; have h2 := hB.lt; have h3 : W3.drew.heap.size = W3.heap.size := rfl; omega)
        refine hK.out _ _ ⟨hw5, hX4.chg C5 (by omega), hY4.chg C5 (by omega)⟩ (fun hHeld => ?_)
        clear hK K
        refine takeH (i := 8) (some 5) rfl rfl (by kernel_rfl) (by kernel_rfl) (by kernel_rfl) (fun _ _ _ h => h) (by rfl) (fun w hSw => by (try dsimp only at hSw); go_simp; try rfl) hHeld ?_
        go_frame
        refine wpAnyH_done (by kernel_rfl) ?_ _
        go_wp2_with fail
        exact bodyPost_ret (results_c2 rfl _ _ _ 61 _ (0, 0) _ .nilIface rfl rfl hB5 Try.underlying61 rfl (info_rg b r.a _)) rfl ⟨rge_of _ _ _ (prR_ok HN.out) (errV_ok HN.out) (hO5.less (by have := hwv.size; exact this)), hw5⟩
set_option maxHeartbeats 1000000 in
theorem accept_any (r : Rg) (b : Bt) (v : Value) (vx : Value) (m : List Int) (w : World) (hv : Is w v r.l) (hx : Is w vx m) :
    Calls Try.prog 44 #[rV r.p r.a v, bV b, vx] w fun e w' => RgE w' w.heap.size (acR r b m) (errV (acN r b m)) e ∧ Below w.heap.size w w' := by
  obtain ⟨q, c, e⟩ := hv.form
  subst e
  obtain ⟨qx, cx, e⟩ := hx.form
  subst e
  obtain ⟨n, hn⟩ : ∃ n, r.l.length = n := ⟨_, rfl⟩
  obtain ⟨k, hk⟩ : ∃ k, m.length = k := ⟨_, rfl⟩
  rw [hn] at hv ⊢
  rw [hk] at hx ⊢
  have HG : gdN r.p r.a n = gdR r := by unfold gdR; rw [hn]
  go_enter Try.func44, Try.ntmps44
  go_upto_region 1 with fail
  obtain ⟨A, hAe, hB0, hB1, hB2, hw⟩ := blk3 w (rC r.p r.a (.slice q n c)) (bC b) (rC zB zB (.slice none 0 0)) 61 23 61
  rw [show ((w.alloc (.cells (rC r.p r.a (.slice q n c)) 61)).alloc (.cells (bC b) 23)).alloc (.cells #[.int .i64 0, .int .i64 0, .int .i64 0, .int .i64 0, .int .i64 0, .int .i64 0, .slice none 0 0] 61) = A from hAe]
  obtain ⟨c0, c1, c2, c3, c4, c5, c6⟩ := cells7 hB0
  obtain ⟨d0, d1, d2⟩ := cells3 hB1
  have hbv := Below.refl A.heap.size A
  clear hAe
  go_wp2_with fail
  refine (good9_any r.p r.a q n c _).mono ?_
  rintro e W1 ⟨rfl, b1⟩
  rw [HG]
  have hbv := ab_trans hbv b1
  cases h1 : gdR r
  · have HN : Hid (acN r b m = 2) := acN_form (by rw [h1]; rfl)
    have hB := hB2.keep hbv
    have hwv := ab_trans hw hbv
    clear hB2
    go_wp2_with (refine st_rg rfl rfl (p1 := zB) (a1 := zB) hB rfl rfl ?_; intro W5 hB5 C5)
    exact bodyPost_ret (results_c2 rfl _ _ _ 61 _ (0, 0) _ _ rfl rfl hB5 Try.underlying61 rfl (info_rg zB zB _)) rfl ⟨rge_zero _ _ _ _ _ (acR_no (by rw [HN.out]; decide)) (by rw [HN.out]; rfl), ab_chg hwv C5 (by omega)⟩
  · go_wp2_with fail
    refine (asks_any b _).mono ?_
    rintro e W2 ⟨rfl, b2⟩
    have hbv := ab_trans hbv b2
    cases h2 : asB b
    · have HN : Hid (acN r b m = 2) := acN_form (by rw [h1, h2]; rfl)
      have hB := hB2.keep hbv
      have hwv := ab_trans hw hbv
      clear hB2
      go_wp2_with (refine st_rg rfl rfl (p1 := zB) (a1 := zB) hB rfl rfl ?_; intro W5 hB5 C5)
      exact bodyPost_ret (results_c2 rfl _ _ _ 61 _ (0, 0) _ _ rfl rfl hB5 Try.underlying61 rfl (info_rg zB zB _)) rfl ⟨rge_zero _ _ _ _ _ (acR_no (by rw [HN.out]; decide)) (by rw [HN.out]; rfl), ab_chg hwv C5 (by omega)⟩
    · by_cases h5 : k ≤ 32
      · have h6 : ((k : Int) ≤ 32) := by omega
        have H5 : Hid (decide (m.length ≤ 32) = true) := by show _ = _; rw [hk]; exact decide_eq_true h5
        go_wp2_with fail
        refine (bless_any b r.p _).mono ?_
        rintro e W3 ⟨rfl, b3⟩
        have hbv := ab_trans hbv b3
        cases h3 : lt3 b r.p
        · have HN : Hid (acN r b m = 0) := acN_ok (by rw [h1, h2, H5.out]; rfl) h3
          have hB := hB2.keep hbv
          have hY := hB1.keep hbv
          have hwv := ab_trans hw hbv
          have hvv := hx.keep hwv
          clear hB2 hB0 hB1 hv hx c0 c1 c2 c3 c4 c5 c6 d0 d1 d2 b1 b2 b3 hbv
          go_upto_region 5 with fail
          refine wp_region_held_drew (S := fun w' => Below w.heap.size w w' ∧ Blk w' (w.heap.size + 1) (bC b) 23) (by kernel_rfl) ⟨ab_drew hwv, hY.drew⟩ (fun hHeld => ?_)
          refine takeH (i := 0) (some 29) rfl rfl (by kernel_rfl) (by kernel_rfl) (by kernel_rfl) (fun _ _ _ h => h) (by rfl) (fun w hSw => by (try dsimp only at hSw); have y0 := hSw.2.at (i := 0) rfl; have y1 := hSw.2.at (i := 1) rfl; have y2 := hSw.2.at (i := 2) rfl; go_simp; try rfl) hHeld ?_
          go_frame
          refine takeH (i := 1) (some 30) rfl rfl (by kernel_rfl) (by kernel_rfl) (by kernel_rfl) (fun _ _ _ h => h) (by rfl) (fun w hSw => by (try dsimp only at hSw); have y0 := hSw.2.at (i := 0) rfl; have y1 := hSw.2.at (i := 1) rfl; have y2 := hSw.2.at (i := 2) rfl; go_simp; try rfl) hHeld ?_
          go_frame
          refine takeH (i := 2) (some 31) rfl rfl (by kernel_rfl) (by kernel_rfl) (by kernel_rfl) (fun _ _ _ h => h) (by rfl) (fun w hSw => by (try dsimp only at hSw); go_simp; try rfl) hHeld ?_
          go_frame
          refine wpAnyH_ready (rs := [3]) (by kernel_rfl) (by simp) (AllReadyH.cons rfl (fun K hK => ?_) AllReadyH.nil)
          go_simp
          refine (bclone_any _ m _ (hvv.keep (ab_drew (Below.refl _ _))) (by omega)).mono ?_
          rintro e W4 ⟨v4, rfl, hO4, b4⟩
          show K _ _
          have hw4 : Below w.heap.size w W4 := ab_trans hHeld.1 b4
          have hY4 := hHeld.2.keep b4
          have hB4 := hB.drew.keep b4
          obtain ⟨q4, c4, e4⟩ := hO4.is.form
          rw [hk] at e4
          subst e4
          refine hK.out _ _ ⟨hw4, hY4⟩ (fun hHeld => ?_)
          clear hK K
          refine takeH (i := 4) (some 33) rfl rfl (by kernel_rfl) (by kernel_rfl) (by kernel_rfl) (fun _ _ _ h => h) (by rfl) (fun w hSw => by (try dsimp only at hSw); go_simp; try rfl) hHeld ?_
          go_frame
          refine wpAnyH_ready (rs := [5]) (by kernel_rfl) (by simp) (AllReadyH.cons rfl (fun K hK => ?_) AllReadyH.nil)
          rw [if_pos (by rfl)]
          refine stW none rfl rfl hB4 rfl rfl (info_rg b b (.slice q4 k c4)) rfl (rg_one _ _ _ _ _) fun W5 hB5 C5 => ?_
          have hw5 := ab_chg hw4 C5 (by omega)
          have hO5 : Io W5 W3.drew.heap.size (.slice q4 k c4) m := own_chgT hO4 C5 (fun e => by have h1 := (hO4.lt _ e).1; have h2 := hB.lt; have h3 : W3.drew.heap.size = W3.heap.size := rfl; omega)
          refine hK.out _ _ ⟨hw5, hY4.chg C5 (by omega)⟩ (fun hHeld => ?_)
          clear hK K
          refine takeH (i := 6) (some 7) rfl rfl (by kernel_rfl) (by kernel_rfl) (by kernel_rfl) (fun _ _ _ h => h) (by rfl) (fun w hSw => by (try dsimp only at hSw); go_simp; try rfl) hHeld ?_
          go_frame
          refine wpAnyH_done (by kernel_rfl) ?_ _
          go_wp2_with fail
          exact bodyPost_ret (results_c2 rfl _ _ _ 61 _ (0, 0) _ .nilIface rfl rfl hB5 Try.underlying61 rfl (info_rg b b _)) rfl ⟨rge_of _ _ _ (acR_ok HN.out) (errV_ok HN.out) (hO5.less (by have := hwv.size; exact this)), hw5⟩
        · have HN : Hid (acN r b m = 11) := acN_stale (by rw [h1, h2, H5.out]; rfl) h3
          have hB := hB2.keep hbv
          have hwv := ab_trans hw hbv
          clear hB2
          go_wp2_with (refine st_rg rfl rfl (p1 := zB) (a1 := zB) hB rfl rfl ?_; intro W5 hB5 C5)
          exact bodyPost_ret (results_c2 rfl _ _ _ 61 _ (0, 0) _ _ rfl rfl hB5 Try.underlying61 rfl (info_rg zB zB _)) rfl ⟨rge_zero _ _ _ _ _ (acR_no (by rw [HN.out]; decide)) (by rw [HN.out]; rfl), ab_chg hwv C5 (by omega)⟩
      · have h6 : ¬ ((k : Int) ≤ 32) := by omega
        have HN : Hid (acN r b m = 2) := acN_form (by rw [hk, decide_eq_false h5]; simp)
        have hB := hB2.keep hbv
        have hwv := ab_trans hw hbv
        clear hB2
        go_wp2_with (refine st_rg rfl rfl (p1 := zB) (a1 := zB) hB rfl rfl ?_; intro W5 hB5 C5)
        exact bodyPost_ret (results_c2 rfl _ _ _ 61 _ (0, 0) _ _ rfl rfl hB5 Try.underlying61 rfl (info_rg zB zB _)) rfl ⟨rge_zero _ _ _ _ _ (acR_no (by rw [HN.out]; decide)) (by rw [HN.out]; rfl), ab_chg hwv C5 (by omega)⟩
end Go.Proofs.Ytodmhohccclhmaa
