/-
  What comes in to the laws on changes: numbers with their sizes, lists of numbers, changes, rows of changes, rows of registers.
-/
import Derived.Test.YtackgngmdcionaaPk26
import Derived.Test.YtackgngmdcionaaPk40
namespace Go.Proofs.Ytackgngmdcionaa
open Go.ChangeShapes Go.WideShapes Go.ChangeAt Go.RowKit
set_option linter.unusedVariables false
set_option maxRecDepth 100000

section
variable {H : Type} {enc : TypeId × Value → H} {w : World} {base : Nat} {spare : Nat → Bool} {held : Bool}
/-- Numbers and how many they may be. -/
def IsZ (w : World) (v : Value) (l : List Int) : Prop := Is w v l ∧ l.length ≤ 17592186043904
theorem IsZ.keep {W W' : World} {v : Value} {l : List Int} (h : IsZ W v l) (hb : Below W.heap.size W W') : IsZ W' v l := ⟨h.1.keep hb, h.2⟩
theorem numsZ {fuel : Nat} {cs : List Value} {x : DataW H × List MemPlace} (hf : DataW.trod enc Try.prog w base spare held fuel 22 cs = some x) (hw : ∀ n ∈ x.1.weights Try.prog 22, n ≤ reachBytes) :
    ∃ q n cap l, cs = [.slice q n cap] ∧ IsZ w (.slice q n cap) l := by
  obtain ⟨q, g, off, len, cap, l, e, hl, hk, hm, hp, hg, hc⟩ := rows_of (n := 1) (D := 8) (fun _ => .i64) Try.underlying22 (by kernel_rfl) (by omega) (kinds_of (by kernel_rfl)) hf
  have hs := (is_rows hl hk hm hp hg hc).1
  subst e
  have z := len_ofT Try.underlying22 hf hw
  rw [show Try.prog.bytesOf 3 = 8 by kernel_rfl] at z
  unfold reachBytes at z
  have := hs.len
  exact ⟨q, len, cap, _, rfl, hs, by omega⟩
theorem open_numsZ {r : Reach} {b0 : Nat} {v : Value} {d : DataW H} {p : List MemPlace} (hv : Value.okWide Try.prog w r b0 22 v) (h : DataW.Trod enc Try.prog w base spare held 22 v d p) (hz : ∀ n ∈ d.weights Try.prog 22, n ≤ reachBytes) : ∃ l, IsZ w v l := by
  obtain ⟨a, len, cap, rfl⟩ := okWide_slice Try.underlying22 hv
  obtain ⟨fuel, hf⟩ := h
  obtain ⟨q, n, c, l, e, hs⟩ := numsZ hf hz
  have e1 : (Value.slice a len cap) = .slice q n c := by simpa [Value.cells] using e
  rw [e1]
  exact ⟨l, hs⟩
/-- A change. -/
structure CgD where
  k : Int
  vo : Value
  o : List Int
  vn : Value
  n : List Int
/-- A row of changes in memory. -/
structure CgAt (W : World) (g o : Nat) (x : CgD) : Prop where
  c0 : W.cell? ⟨g, o, none⟩ = some (.int .i64 x.k)
  c1 : W.cell? ⟨g, o + 1, none⟩ = some x.vo
  c2 : W.cell? ⟨g, o + 2, none⟩ = some x.vn
  so : IsZ W x.vo x.o
  sn : IsZ W x.vn x.n
theorem CgAt.keep {W W' : World} {g o : Nat} {x : CgD} (h : CgAt W g o x) (hg : g < W.heap.size) (hb : Below W.heap.size W W') : CgAt W' g o x :=
  ⟨keep_cell hb h.c0 hg, keep_cell hb h.c1 hg, keep_cell hb h.c2 hg, h.so.keep hb, h.sn.keep hb⟩
structure CgRow (W : World) (q : Option Addr) (n cap g off : Nat) (os : List CgD) : Prop where
  len : os.length = n
  fits : n ≤ cap
  max : cap ≤ 9223372036854775807
  ptr : 0 < n → q = some ⟨g, off, none⟩
  lt : 0 < n → g < W.heap.size
  row : ∀ j x, os[j]? = some x → CgAt W g (off + j * 3) x
/-- A row of registers in memory. -/
structure RrD where
  p : Bt
  a : Bt
  v : Value
  l : List Int
structure RrAt (W : World) (g o : Nat) (x : RrD) : Prop where
  c0 : W.cell? ⟨g, o, none⟩ = some (.int .i64 x.p.n)
  c1 : W.cell? ⟨g, o + 1, none⟩ = some (.int .i64 x.p.nd)
  c2 : W.cell? ⟨g, o + 2, none⟩ = some (.int .i64 x.p.lf)
  c3 : W.cell? ⟨g, o + 3, none⟩ = some (.int .i64 x.a.n)
  c4 : W.cell? ⟨g, o + 4, none⟩ = some (.int .i64 x.a.nd)
  c5 : W.cell? ⟨g, o + 5, none⟩ = some (.int .i64 x.a.lf)
  c6 : W.cell? ⟨g, o + 6, none⟩ = some x.v
  sl : IsZ W x.v x.l
theorem RrAt.keep {W W' : World} {g o : Nat} {x : RrD} (h : RrAt W g o x) (hg : g < W.heap.size) (hb : Below W.heap.size W W') : RrAt W' g o x :=
  ⟨keep_cell hb h.c0 hg, keep_cell hb h.c1 hg, keep_cell hb h.c2 hg, keep_cell hb h.c3 hg, keep_cell hb h.c4 hg, keep_cell hb h.c5 hg, keep_cell hb h.c6 hg, h.sl.keep hb⟩
structure RrRow (W : World) (q : Option Addr) (n cap g off : Nat) (os : List RrD) : Prop where
  len : os.length = n
  fits : n ≤ cap
  max : cap ≤ 9223372036854775807
  ptr : 0 < n → q = some ⟨g, off, none⟩
  lt : 0 < n → g < W.heap.size
  row : ∀ j x, os[j]? = some x → RrAt W g (off + j * 7) x
theorem RrRow.keep {W W' : World} {q : Option Addr} {n cap g off : Nat} {os : List RrD} (h : RrRow W q n cap g off os) (hb : Below W.heap.size W W') : RrRow W' q n cap g off os :=
  ⟨h.len, h.fits, h.max, h.ptr, fun h0 => Nat.lt_of_lt_of_le (h.lt h0) hb.size, fun j x hx => (h.row j x hx).keep (h.lt (by have := (List.getElem?_eq_some_iff.1 hx).1; have := h.len; omega)) hb⟩
theorem CgRow.keep {W W' : World} {q : Option Addr} {n cap g off : Nat} {os : List CgD} (h : CgRow W q n cap g off os) (hb : Below W.heap.size W W') : CgRow W' q n cap g off os :=
  ⟨h.len, h.fits, h.max, h.ptr, fun h0 => Nat.lt_of_lt_of_le (h.lt h0) hb.size, fun j x hx => (h.row j x hx).keep (h.lt (by have := (List.getElem?_eq_some_iff.1 hx).1; have := h.len; omega)) hb⟩
/-- A row of lists of numbers in memory. -/
structure NlRow (W : World) (q : Option Addr) (n cap g off : Nat) (os : List (Value × List Int)) : Prop where
  len : os.length = n
  fits : n ≤ cap
  max : cap ≤ 9223372036854775807
  ptr : 0 < n → q = some ⟨g, off, none⟩
  lt : 0 < n → g < W.heap.size
  row : ∀ j x, os[j]? = some x → W.cell? ⟨g, off + j, none⟩ = some x.1 ∧ IsZ W x.1 x.2
end
end Go.Proofs.Ytackgngmdcionaa
