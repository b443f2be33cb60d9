/-
  What comes in to the laws on changes: numbers with their sizes, lists of numbers, changes, rows of changes, rows of registers.
-/
import Derived.Test.YtddpdmolknfjaaaChD
import Derived.Test.YtddpdmolknfjaaaSzL
namespace Go.Proofs.Ytddpdmolknfjaaa
open Go.ChangeShapes Go.WideShapes Go.ChangeAt Go.RowKit
set_option linter.unusedVariables false
set_option maxRecDepth 100000

section
variable {H : Type} {enc : TypeId × Value → H} {w : World} {base : Nat} {spare : Nat → Bool} {held : Bool}
/-- Numbers and how many they may be. -/
def IsZ (w : World) (v : Value) (l : List Int) : Prop := Is w v l ∧ l.length ≤ 17592186043904
theorem IsZ.keep {W W' : World} {v : Value} {l : List Int} (h : IsZ W v l) (hb : Below W.heap.size W W') : IsZ W' v l := ⟨h.1.keep hb, h.2⟩
theorem numsZ {fuel : Nat} {cs : List Value} {x : DataW H × List MemPlace} (hf : DataW.trod enc Try.prog w base spare held fuel 27 cs = some x) (hw : ∀ n ∈ x.1.weights Try.prog 27, n ≤ reachBytes) :
    ∃ q n cap l, cs = [.slice q n cap] ∧ IsZ w (.slice q n cap) l := by
  obtain ⟨q, g, off, len, cap, l, e, hl, hk, hm, hp, hg, hc⟩ := rows_of (n := 1) (D := 8) (fun _ => .i64) Try.underlying27 (by kernel_rfl) (by omega) (kinds_of (by kernel_rfl)) hf
  have hs := (is_rows hl hk hm hp hg hc).1
  subst e
  have z := len_ofT Try.underlying27 hf hw
  rw [show Try.prog.bytesOf 3 = 8 by kernel_rfl] at z
  unfold reachBytes at z
  have := hs.len
  exact ⟨q, len, cap, _, rfl, hs, by omega⟩
theorem open_numsZ {r : Reach} {b0 : Nat} {v : Value} {d : DataW H} {p : List MemPlace} (hv : Value.okWide Try.prog w r b0 27 v) (h : DataW.Trod enc Try.prog w base spare held 27 v d p) (hz : ∀ n ∈ d.weights Try.prog 27, n ≤ reachBytes) : ∃ l, IsZ w v l := by
  obtain ⟨a, len, cap, rfl⟩ := okWide_slice Try.underlying27 hv
  obtain ⟨fuel, hf⟩ := h
  obtain ⟨q, n, c, l, e, hs⟩ := numsZ hf hz
  have e1 : (Value.slice a len cap) = .slice q n c := by simpa [Value.cells] using e
  rw [e1]
  exact ⟨l, hs⟩
/-- A change. -/
structure CgD where
  k : Int
  vo : Value
  o : List Int
  vn : Value
  n : List Int
set_option maxHeartbeats 1000000 in
theorem open_change {r : Reach} {b0 : Nat} {v : Value} {d : DataW H} {p : List MemPlace} (hv : Value.okWide Try.prog w r b0 51 v) (h : DataW.Trod enc Try.prog w base spare held 51 v d p) (hz : ∀ n ∈ d.weights Try.prog 51, n ≤ reachBytes) :
    ∃ x : CgD, v = cgV x.k x.vo x.vn ∧ IsZ w x.vo x.o ∧ IsZ w x.vn x.n := by
  obtain ⟨cs, rfl, hs, m, xs, rfl, hx⟩ := dy_struct (n := 3) Try.underlying51 (by kernel_rfl) hv h
  obtain ⟨x0, g0, f0⟩ := hx 0 _ rfl
  obtain ⟨x1, g1, f1⟩ := hx 1 _ rfl
  obtain ⟨x2, g2, f2⟩ := hx 2 _ rfl
  obtain ⟨e0, e1, e2, rfl⟩ : ∃ e0 e1 e2, cs = #[e0, e1, e2] := by
    refine ⟨cs[0], cs[1], cs[2], ?_⟩
    apply Array.ext
    · simpa using hs
    · intro i h1 h2
      have : i = 0 ∨ i = 1 ∨ i = 2 := by omega
      rcases this with rfl | rfl | rfl <;> rfl
  obtain ⟨k0, rfl, -⟩ := i64_of (e := e0) f0
  obtain ⟨q1, n1, c1, l1, ee1, hs1⟩ := numsZ f1 (fun n hn => hz n (by simp only [DataW.weights, Try.underlying51]; exact DataW.weights_mem_each (j := 1) rfl g1 n hn))
  obtain ⟨q2, n2, c2, l2, ee2, hs2⟩ := numsZ f2 (fun n hn => hz n (by simp only [DataW.weights, Try.underlying51]; exact DataW.weights_mem_each (j := 2) rfl g2 n hn))
  have h9 : [e1] = [Value.slice q1 n1 c1] := ee1
  obtain rfl : e1 = .slice q1 n1 c1 := by simpa using h9
  have h8 : [e2] = [Value.slice q2 n2 c2] := ee2
  obtain rfl : e2 = .slice q2 n2 c2 := by simpa using h8
  exact ⟨⟨k0, .slice q1 n1 c1, l1, .slice q2 n2 c2, l2⟩, rfl, hs1, hs2⟩
/-- A row of changes in memory. -/
structure CgAt (W : World) (g o : Nat) (x : CgD) : Prop where
  c0 : W.cell? ⟨g, o, none⟩ = some (.int .i64 x.k)
  c1 : W.cell? ⟨g, o + 1, none⟩ = some x.vo
  c2 : W.cell? ⟨g, o + 2, none⟩ = some x.vn
  so : IsZ W x.vo x.o
  sn : IsZ W x.vn x.n
theorem CgAt.keep {W W' : World} {g o : Nat} {x : CgD} (h : CgAt W g o x) (hg : g < W.heap.size) (hb : Below W.heap.size W W') : CgAt W' g o x :=
  ⟨keep_cell hb h.c0 hg, keep_cell hb h.c1 hg, keep_cell hb h.c2 hg, h.so.keep hb, h.sn.keep hb⟩
structure CgRow (W : World) (q : Option Addr) (n cap g off : Nat) (os : List CgD) : Prop where
  len : os.length = n
  fits : n ≤ cap
  max : cap ≤ 9223372036854775807
  ptr : 0 < n → q = some ⟨g, off, none⟩
  lt : 0 < n → g < W.heap.size
  row : ∀ j x, os[j]? = some x → CgAt W g (off + j * 3) x
/-- A row of registers in memory. -/
structure RrD where
  p : Bt
  a : Bt
  v : Value
  l : List Int
structure RrAt (W : World) (g o : Nat) (x : RrD) : Prop where
  c0 : W.cell? ⟨g, o, none⟩ = some (.int .i64 x.p.n)
  c1 : W.cell? ⟨g, o + 1, none⟩ = some (.int .i64 x.p.nd)
  c2 : W.cell? ⟨g, o + 2, none⟩ = some (.int .i64 x.p.lf)
  c3 : W.cell? ⟨g, o + 3, none⟩ = some (.int .i64 x.a.n)
  c4 : W.cell? ⟨g, o + 4, none⟩ = some (.int .i64 x.a.nd)
  c5 : W.cell? ⟨g, o + 5, none⟩ = some (.int .i64 x.a.lf)
  c6 : W.cell? ⟨g, o + 6, none⟩ = some x.v
  sl : IsZ W x.v x.l
theorem RrAt.keep {W W' : World} {g o : Nat} {x : RrD} (h : RrAt W g o x) (hg : g < W.heap.size) (hb : Below W.heap.size W W') : RrAt W' g o x :=
  ⟨keep_cell hb h.c0 hg, keep_cell hb h.c1 hg, keep_cell hb h.c2 hg, keep_cell hb h.c3 hg, keep_cell hb h.c4 hg, keep_cell hb h.c5 hg, keep_cell hb h.c6 hg, h.sl.keep hb⟩
structure RrRow (W : World) (q : Option Addr) (n cap g off : Nat) (os : List RrD) : Prop where
  len : os.length = n
  fits : n ≤ cap
  max : cap ≤ 9223372036854775807
  ptr : 0 < n → q = some ⟨g, off, none⟩
  lt : 0 < n → g < W.heap.size
  row : ∀ j x, os[j]? = some x → RrAt W g (off + j * 7) x
theorem RrRow.keep {W W' : World} {q : Option Addr} {n cap g off : Nat} {os : List RrD} (h : RrRow W q n cap g off os) (hb : Below W.heap.size W W') : RrRow W' q n cap g off os :=
  ⟨h.len, h.fits, h.max, h.ptr, fun h0 => Nat.lt_of_lt_of_le (h.lt h0) hb.size, fun j x hx => (h.row j x hx).keep (h.lt (by have := (List.getElem?_eq_some_iff.1 hx).1; have := h.len; omega)) hb⟩
theorem CgRow.keep {W W' : World} {q : Option Addr} {n cap g off : Nat} {os : List CgD} (h : CgRow W q n cap g off os) (hb : Below W.heap.size W W') : CgRow W' q n cap g off os :=
  ⟨h.len, h.fits, h.max, h.ptr, fun h0 => Nat.lt_of_lt_of_le (h.lt h0) hb.size, fun j x hx => (h.row j x hx).keep (h.lt (by have := (List.getElem?_eq_some_iff.1 hx).1; have := h.len; omega)) hb⟩
/-- A row of lists of numbers in memory. -/
structure NlRow (W : World) (q : Option Addr) (n cap g off : Nat) (os : List (Value × List Int)) : Prop where
  len : os.length = n
  fits : n ≤ cap
  max : cap ≤ 9223372036854775807
  ptr : 0 < n → q = some ⟨g, off, none⟩
  lt : 0 < n → g < W.heap.size
  row : ∀ j x, os[j]? = some x → W.cell? ⟨g, off + j, none⟩ = some x.1 ∧ IsZ W x.1 x.2
set_option maxHeartbeats 1000000 in
theorem open_nlists {r : Reach} {b0 : Nat} {v : Value} {d : DataW H} {p : List MemPlace} (hv : Value.okWide Try.prog w r b0 62 v) (h : DataW.Trod enc Try.prog w base spare held 62 v d p) (hz : ∀ n ∈ d.weights Try.prog 62, n ≤ reachBytes) :
    ∃ (q : Option Addr) (n cap g off : Nat) (os : List (Value × List Int)), v = .slice q n cap ∧ NlRow w q n cap g off os := by
  obtain ⟨a, len, cap, rfl⟩ := okWide_slice Try.underlying62 hv
  obtain ⟨fuel, hf⟩ := h
  rcases Deep.open_slice1 Try.underlying62 (by kernel_rfl) hf with ⟨hcs, _⟩ | ⟨a', len', cap', m, n', V, D', Pl, hcs, hb, hl, hm, hmm, hx, hel⟩
  · have e1 : (Value.slice a len cap) = .slice none 0 0 := by simpa [Value.cells] using hcs
    cases e1
    exact ⟨none, 0, 0, 0, 0, [], rfl, rfl, by omega, by omega, fun h => absurd h (by omega), fun h => absurd h (by omega), fun j c hc => by simp at hc⟩
  · have e1 : (Value.slice a len cap) = .slice (some a') len' cap' := by simpa [Value.cells] using hcs
    cases e1
    have hle : len ≤ m := by rw [hmm]; split <;> omega
    have hxd : d = .slice ((List.range len).map D') ((List.range (m - len)).map fun j => D' (len + j)) := congrArg Prod.fst hx
    subst hxd
    have key : ∀ j, j < len → ∃ x : Value × List Int, w.cell? (a'.add j) = some x.1 ∧ IsZ w x.1 x.2 := fun j hj => by
      obtain ⟨h1, h2⟩ := hel j (by omega)
      obtain ⟨q, n, c, l, e, hs⟩ := numsZ h2 (fun n hn => hz n (by
        simp only [DataW.weights, Try.underlying62]
        exact List.mem_cons_of_mem _ (List.mem_append_left _ (weights_mem_all (List.mem_map.2 ⟨j, List.mem_range.2 hj, rfl⟩) n hn))))
      have e2 : V j = .slice q n c := by simpa using e
      rw [e2] at h1
      exact ⟨⟨.slice q n c, l⟩, h1, hs⟩
    haveI : Inhabited (Value × List Int) := ⟨⟨.nilIface, []⟩⟩
    obtain ⟨L, hL⟩ := Deep.choose_lt key
    have hspot : 0 < len → a'.spot = none := fun h0 => by
      have h1 := (hL 0 h0).1
      have := spot_of_cell h1
      simpa [Addr.add] using this
    refine ⟨some a', len, cap, a'.block, a'.off, (List.range len).map L, rfl, ⟨by simp, hl, hm, fun h0 => ?_, fun h0 => ?_, fun j x hx => ?_⟩⟩
    · have hs := hspot h0
      obtain ⟨b, o, s⟩ := a'; cases hs; rfl
    · have := World.block_lt_of_cell? w _ (hL 0 h0).1
      simpa [Addr.add] using this
    · have hj : j < len := by have := (List.getElem?_eq_some_iff.1 hx).1; simpa using this
      have hxj : x = L j := by simp [hj] at hx; exact hx.symm
      subst hxj
      have hs := hspot (by omega)
      obtain ⟨h0, h1⟩ := hL j hj
      rw [add_plain _ hs] at h0
      exact ⟨h0, h1⟩
end
end Go.Proofs.Ytddpdmolknfjaaa
