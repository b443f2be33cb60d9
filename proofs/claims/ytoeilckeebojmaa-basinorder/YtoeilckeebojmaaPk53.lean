/-
  What comes in to the laws on basins: basins that are played.
  What comes in to the laws on basins: rows of operations, rows of places.
  What the laws on basins ask ahead: long, fed.
  basin's Feed, whatever it is handed: what it leaves.
  What comes in to the laws on basins: rows of bools.
-/
import Derived.Test.YtoeilckeebojmaaPk45
import Derived.Test.YtoeilckeebojmaaPk29
import Derived.Test.YtoeilckeebojmaaPk09
import Derived.Test.YtoeilckeebojmaaPk31
import Derived.Test.YtoeilckeebojmaaPk33
import Derived.Test.YtoeilckeebojmaaPk48
import Derived.Test.YtoeilckeebojmaaPk49
namespace Go.Proofs.Ytoeilckeebojmaa
open Go.ChangeShapes Go.WideShapes Go.ChangeAt Go.RowKit
set_option linter.unusedVariables false
set_option maxRecDepth 100000

theorem er_rows16 {W : World} {q : Option Addr} {g off n cap : Nat} {l : List (Nat → Int)} (hn : l.length = n) (hc : n ≤ cap) (hm : cap ≤ 9223372036854775807) (hp : 0 < n → q = some ⟨g, off, none⟩) (hg : 0 < n → g < W.heap.size)
    (hr : ∀ j c, l[j]? = some c → ∀ i, i < 2 → W.cell? ⟨g, off + j * 2 + i, none⟩ = some (.int .i64 (c i)) ∧ (Lit.int .i64 (c i)).wf = true) : ER E2 W (.slice q n cap) (l.map fun c => (c 0, c 1)) ∧ ∀ p ∈ l.map (fun c => (c 0, c 1)), J64 p.1 ∧ J64 p.2 := by
  have hl : (l.map fun c => (c 0, c 1)).length = n := by rw [List.length_map]; exact hn
  refine ⟨⟨q, cap, g, off, by rw [hl], by rw [hl]; exact hc, hm, fun h => ⟨hp (by rwa [hl] at h), hg (by rwa [hl] at h)⟩, fun j u hu => ?_⟩, fun p hp => ?_⟩
  · have hj := (List.getElem?_eq_some_iff.1 hu).1
    rw [E2.fl_len, hl] at hj
    have hjd : j / 2 < l.length := by rw [hn]; exact Nat.div_lt_of_lt_mul (by rw [Nat.mul_comm]; exact hj)
    have hm2 : j % 2 < 2 := Nat.mod_lt _ (by omega)
    have hx := hr (j / 2) _ (List.getElem?_eq_getElem hjd) (j % 2) hm2
    have hy := E2.fl_at (l.map fun c => (c 0, c 1)) (j / 2) _ (by rw [List.getElem?_map, List.getElem?_eq_getElem hjd]; rfl) (j % 2) (.int .i64 (l[j / 2] (j % 2))) (by
      have : j % 2 = 0 ∨ j % 2 = 1 := by omega
      rcases this with e | e <;> rw [e] <;> rfl)
    rw [show j / 2 * E2.k + j % 2 = j by show j / 2 * 2 + j % 2 = j; omega, hu] at hy
    cases hy
    rw [show off + j = off + j / 2 * 2 + j % 2 by omega]
    exact hx.1
  · obtain ⟨c, hc, rfl⟩ := List.mem_map.1 hp
    obtain ⟨j, hj⟩ := List.mem_iff_getElem?.1 hc
    exact ⟨bounds_i64 (hr j c hj 0 (by omega)).2, bounds_i64 (hr j c hj 1 (by omega)).2⟩
theorem er_rows5 {W : World} {q : Option Addr} {g off n cap : Nat} {l : List (Nat → Int)} (hn : l.length = n) (hc : n ≤ cap) (hm : cap ≤ 9223372036854775807) (hp : 0 < n → q = some ⟨g, off, none⟩) (hg : 0 < n → g < W.heap.size)
    (hr : ∀ j c, l[j]? = some c → ∀ i, i < 5 → W.cell? ⟨g, off + j * 5 + i, none⟩ = some (.int .i64 (c i)) ∧ (Lit.int .i64 (c i)).wf = true) : ER E5 W (.slice q n cap) (l.map fun c => (⟨c 0, c 1, c 2, c 3, c 4⟩ : Op5)) ∧ ∀ p ∈ l.map (fun c => (⟨c 0, c 1, c 2, c 3, c 4⟩ : Op5)), Fit5 p := by
  have hl : (l.map fun c => (⟨c 0, c 1, c 2, c 3, c 4⟩ : Op5)).length = n := by rw [List.length_map]; exact hn
  refine ⟨⟨q, cap, g, off, by rw [hl], by rw [hl]; exact hc, hm, fun h => ⟨hp (by rwa [hl] at h), hg (by rwa [hl] at h)⟩, fun j u hu => ?_⟩, fun p hp => ?_⟩
  · have hj := (List.getElem?_eq_some_iff.1 hu).1
    rw [E5.fl_len, hl] at hj
    have hjd : j / 5 < l.length := by rw [hn]; exact Nat.div_lt_of_lt_mul (by rw [Nat.mul_comm]; exact hj)
    have hm2 : j % 5 < 5 := Nat.mod_lt _ (by omega)
    have hx := hr (j / 5) _ (List.getElem?_eq_getElem hjd) (j % 5) hm2
    have hy := E5.fl_at (l.map fun c => (⟨c 0, c 1, c 2, c 3, c 4⟩ : Op5)) (j / 5) _ (by rw [List.getElem?_map, List.getElem?_eq_getElem hjd]; rfl) (j % 5) (.int .i64 (l[j / 5] (j % 5))) (by
      have : j % 5 = 0 ∨ j % 5 = 1 ∨ j % 5 = 2 ∨ j % 5 = 3 ∨ j % 5 = 4 := by omega
      rcases this with e | e | e | e | e <;> rw [e] <;> rfl)
    rw [show j / 5 * E5.k + j % 5 = j by show j / 5 * 5 + j % 5 = j; omega, hu] at hy
    cases hy
    rw [show off + j = off + j / 5 * 5 + j % 5 by omega]
    exact hx.1
  · obtain ⟨c, hc, rfl⟩ := List.mem_map.1 hp
    obtain ⟨j, hj⟩ := List.mem_iff_getElem?.1 hc
    exact ⟨bounds_i64 (hr j c hj 0 (by omega)).2, bounds_i64 (hr j c hj 1 (by omega)).2, bounds_i64 (hr j c hj 2 (by omega)).2, bounds_i64 (hr j c hj 3 (by omega)).2, bounds_i64 (hr j c hj 4 (by omega)).2⟩
theorem ER.outB16 {α : Type} {E : En α} {W : World} {v : Value} {l : List α} {X : Nat → Prop} (h : ER E W v l) (hl : 0 < l.length) (hX : ∀ k, X k → W.heap.size ≤ k) : OutB v X := by
  obtain ⟨q, cap, g, off, rfl, h2, h3, h4, h5⟩ := h
  obtain ⟨rfl, hg⟩ := h4 hl
  intro a n c e hx
  cases e
  have := hX _ hx
  exact absurd hg (by show ¬ g < W.heap.size; have h9 : W.heap.size ≤ g := this; omega)
/-- A call. -/
structure SeD where
  kd : Int
  sr : Int
  nx : Bool
  fr : Int
  la : Int
  vc : Value
  cu : List (Int × Int)
  vo : Value
  ops : List Op5
  p : Int × Int
structure SeF (x : SeD) : Prop where
  kd : J64 x.kd
  sr : J64 x.sr
  fr : J64 x.fr
  la : J64 x.la
  cu : ∀ p ∈ x.cu, J64 p.1 ∧ J64 p.2
  ops : ∀ o ∈ x.ops, Fit5 o
  p : J64 x.p.1 ∧ J64 x.p.2
structure SeAt (W : World) (g o : Nat) (x : SeD) : Prop where
  c0 : W.cell? ⟨g, o, none⟩ = some (.int .i64 x.kd)
  c1 : W.cell? ⟨g, o + 1, none⟩ = some (.int .i64 x.sr)
  c2 : W.cell? ⟨g, o + 2, none⟩ = some (.bool x.nx)
  c3 : W.cell? ⟨g, o + 3, none⟩ = some (.int .i64 x.fr)
  c4 : W.cell? ⟨g, o + 4, none⟩ = some (.int .i64 x.la)
  c5 : W.cell? ⟨g, o + 5, none⟩ = some x.vc
  c6 : W.cell? ⟨g, o + 6, none⟩ = some x.vo
  c7 : W.cell? ⟨g, o + 7, none⟩ = some (.int .i64 x.p.1)
  c8 : W.cell? ⟨g, o + 8, none⟩ = some (.int .i64 x.p.2)
  sc : ER E2 W x.vc x.cu
  so : ER E5 W x.vo x.ops
  few : x.ops.length ≤ 3518437208881
  fit : SeF x
theorem SeAt.keep {W W' : World} {g o : Nat} {x : SeD} (h : SeAt W g o x) (hg : g < W.heap.size) (hb : Below W.heap.size W W') : SeAt W' g o x :=
  ⟨keep_cell hb h.c0 hg, keep_cell hb h.c1 hg, keep_cell hb h.c2 hg, keep_cell hb h.c3 hg, keep_cell hb h.c4 hg, keep_cell hb h.c5 hg, keep_cell hb h.c6 hg, keep_cell hb h.c7 hg, keep_cell hb h.c8 hg, h.sc.keep hb, h.so.keep hb, h.few, h.fit⟩
structure SeRow (W : World) (q : Option Addr) (n cap g off : Nat) (os : List SeD) : Prop where
  len : os.length = n
  fits : n ≤ cap
  max : cap ≤ 9223372036854775807
  ptr : 0 < n → q = some ⟨g, off, none⟩
  lt : 0 < n → g < W.heap.size
  row : ∀ j x, os[j]? = some x → SeAt W g (off + j * 9) x
theorem SeRow.keep {W W' : World} {q : Option Addr} {n cap g off : Nat} {os : List SeD} (h : SeRow W q n cap g off os) (hb : Below W.heap.size W W') : SeRow W' q n cap g off os :=
  ⟨h.len, h.fits, h.max, h.ptr, fun h0 => Nat.lt_of_lt_of_le (h.lt h0) hb.size, fun j x hx => (h.row j x hx).keep (h.lt (by have := (List.getElem?_eq_some_iff.1 hx).1; have := h.len; omega)) hb⟩
section
variable {H : Type} {enc : TypeId × Value → H} {w : World} {base : Nat} {spare : Nat → Bool} {held : Bool}
theorem b_of {fuel : Nat} {e : Value} {x : DataW H × List MemPlace} (hf : DataW.trod enc Try.prog w base spare held fuel 4 [e] = some x) : ∃ b, e = .bool b := by
  obtain ⟨b, e1, -⟩ := DataW.trod_bool Try.underlying4 hf
  exact ⟨b, by simpa using e1⟩
theorem nums16 {fuel : Nat} {cs : List Value} {x : DataW H × List MemPlace} (hf : DataW.trod enc Try.prog w base spare held fuel 23 cs = some x) (hw : ∀ n ∈ x.1.weights Try.prog 23, n ≤ reachBytes) :
    ∃ q n cap l, cs = [.slice q n cap] ∧ Is w (.slice q n cap) l ∧ In64 l ∧ l.length ≤ 17592186043904 := by
  obtain ⟨q, g, off, len, cap, l, e, hl, hk, hm, hp, hg, hc⟩ := rows_of (n := 1) (D := 8) (fun _ => .i64) Try.underlying23 (by kernel_rfl) (by omega) (kinds_of (by kernel_rfl)) hf
  subst e
  have z := len_ofT Try.underlying23 hf hw
  rw [show Try.prog.bytesOf 3 = 8 by kernel_rfl] at z
  unfold reachBytes at z
  obtain ⟨h1, h2⟩ := is_rows hl hk hm hp hg hc
  exact ⟨q, len, cap, _, rfl, h1, h2, by rw [List.length_map]; omega⟩
theorem places16 {fuel : Nat} {cs : List Value} {x : DataW H × List MemPlace} (hf : DataW.trod enc Try.prog w base spare held fuel 36 cs = some x) :
    ∃ q n cap l, cs = [.slice q n cap] ∧ ER E2 w (.slice q n cap) l ∧ ∀ p ∈ l, J64 p.1 ∧ J64 p.2 := by
  obtain ⟨q, g, off, len, cap, l, e, hl, hk, hm, hp, hg, hc⟩ := rows_of (n := 2) (D := 8) (fun _ => .i64) Try.underlying36 (by kernel_rfl) (by omega) (kinds_of (by kernel_rfl)) hf
  obtain ⟨h1, h2⟩ := er_rows16 hl hk hm hp hg hc
  exact ⟨q, len, cap, _, e, h1, h2⟩
theorem opsl16 {fuel : Nat} {cs : List Value} {x : DataW H × List MemPlace} (hf : DataW.trod enc Try.prog w base spare held fuel 22 cs = some x) (hw : ∀ n ∈ x.1.weights Try.prog 22, n ≤ reachBytes) :
    ∃ q n cap l, cs = [.slice q n cap] ∧ ER E5 w (.slice q n cap) l ∧ (∀ p ∈ l, Fit5 p) ∧ l.length ≤ 3518437208881 := by
  obtain ⟨q, g, off, len, cap, l, e, hl, hk, hm, hp, hg, hc⟩ := rows_of (n := 5) (D := 8) (fun _ => .i64) Try.underlying22 (by kernel_rfl) (by omega) (kinds_of (by kernel_rfl)) hf
  subst e
  have z := len_ofT Try.underlying22 hf hw
  rw [show Try.prog.bytesOf 27 = 40 by kernel_rfl] at z
  unfold reachBytes at z
  obtain ⟨h1, h2⟩ := er_rows5 hl hk hm hp hg hc
  exact ⟨q, len, cap, _, rfl, h1, h2, by rw [List.length_map]; omega⟩
set_option maxHeartbeats 1000000 in
theorem script16 {fuel : Nat} {cs : List Value} {y : DataW H × List MemPlace} (hf : DataW.trod enc Try.prog w base spare held fuel 60 cs = some y) (hw : ∀ n ∈ y.1.weights Try.prog 60, n ≤ reachBytes) :
    ∃ (q : Option Addr) (n cap g off : Nat) (os : List SeD), cs = [.slice q n cap] ∧ SeRow w q n cap g off os := by
  rcases Deep.open_slice Try.underlying60 hf with ⟨hcs, _⟩ | ⟨a', len, cap, m, n', D', Pl, hcs, hb, hl, hm, hmm, hx, hel⟩
  · exact ⟨none, 0, 0, 0, 0, [], hcs, rfl, by omega, by omega, fun h => absurd h (by omega), fun h => absurd h (by omega), fun j c hc => by simp at hc⟩
  · have hle : len ≤ m := by rw [hmm]; split <;> omega
    have z : len * Try.prog.bytesOf 64 ≤ reachBytes := by
      have hf2 := hf
      rw [hcs] at hf2
      exact len_ofT Try.underlying60 hf2 hw
    rw [show Try.prog.bytesOf 64 = 104 by kernel_rfl] at z
    unfold reachBytes at z
    have hxd : y.1 = .slice ((List.range len).map D') ((List.range (m - len)).map fun j => D' (len + j)) := congrArg Prod.fst hx
    have key : ∀ j, j < len → ∃ x : SeD, w.cell? ((a'.add (j * 9)).add 0) = some (.int .i64 x.kd) ∧ w.cell? ((a'.add (j * 9)).add 1) = some (.int .i64 x.sr) ∧ w.cell? ((a'.add (j * 9)).add 2) = some (.bool x.nx) ∧ w.cell? ((a'.add (j * 9)).add 3) = some (.int .i64 x.fr) ∧ w.cell? ((a'.add (j * 9)).add 4) = some (.int .i64 x.la) ∧ w.cell? ((a'.add (j * 9)).add 5) = some x.vc ∧ w.cell? ((a'.add (j * 9)).add 6) = some x.vo ∧ w.cell? ((a'.add (j * 9)).add 7) = some (.int .i64 x.p.1) ∧ w.cell? ((a'.add (j * 9)).add 8) = some (.int .i64 x.p.2) ∧ ER E2 w x.vc x.cu ∧ ER E5 w x.vo x.ops ∧ x.ops.length ≤ 3518437208881 ∧ SeF x := by
      intro j hj
      obtain ⟨cs', h1, h2⟩ := hel j (by omega)
      rw [show Try.prog.cellsOf 64 = 9 by kernel_rfl] at h1
      obtain ⟨_, h3, h4⟩ := World.cells?_some h1
      have hzj : ∀ n ∈ (D' j).weights Try.prog 64, n ≤ reachBytes := fun n hn => hw n (by
        rw [hxd]
        simp only [DataW.weights, Try.underlying60]
        exact List.mem_cons_of_mem _ (List.mem_append_left _ (weights_mem_all (List.mem_map.2 ⟨j, List.mem_range.2 hj, rfl⟩) n hn)))
      obtain ⟨xs, m', _, hxe, _, hxl, hxx⟩ := DataW.trod_struct Try.underlying64 h2
      have hxe1 : D' j = .agg (xs.map (·.1)) := congrArg Prod.fst hxe
      rw [hxe1] at hzj
      have hf0 := hxx 0 _ rfl
      have hf1 := hxx 1 _ rfl
      have hf2 := hxx 2 _ rfl
      have hf3 := hxx 3 _ rfl
      have hf4 := hxx 4 _ rfl
      have hf5 := hxx 5 _ rfl
      have hf6 := hxx 6 _ rfl
      have hf7 := hxx 7 _ rfl
      have hsz : xs.length = 8 := hxl
      rw [List.getElem?_eq_getElem (by omega)] at hf0 hf1 hf2 hf3 hf4 hf5 hf6 hf7
      have hwo : ∀ n ∈ (xs[6]'(by omega)).1.weights Try.prog 22, n ≤ reachBytes := fun n hn => hzj n (by simp only [DataW.weights, Try.underlying64]; exact DataW.weights_mem_each (j := 6) rfl (by rw [List.getElem?_map, List.getElem?_eq_getElem (by omega)]; rfl) n hn)
      obtain ⟨e0, e1, e2, e3, e4, e5, e6, e7, e8, rfl⟩ : ∃ e0 e1 e2 e3 e4 e5 e6 e7 e8, cs' = [e0, e1, e2, e3, e4, e5, e6, e7, e8] := by
        match cs', h3 with
        | [e0, e1, e2, e3, e4, e5, e6, e7, e8], _ => exact ⟨e0, e1, e2, e3, e4, e5, e6, e7, e8, rfl⟩
      obtain ⟨k0, rfl, b0⟩ := i64_of (e := e0) hf0
      obtain ⟨k1, rfl, b1⟩ := i64_of (e := e1) hf1
      obtain ⟨k2, rfl⟩ := b_of (e := e2) hf2
      obtain ⟨k3, rfl, b3⟩ := i64_of (e := e3) hf3
      obtain ⟨k4, rfl, b4⟩ := i64_of (e := e4) hf4
      obtain ⟨q1, n1, c1, l1, ee1, hs1, hb1⟩ := places16 hf5
      have h9 : [e5] = [Value.slice q1 n1 c1] := ee1
      obtain rfl : e5 = .slice q1 n1 c1 := by simpa using h9
      obtain ⟨q2, n2, c2, l2, ee2, hs2, hb2, hl2⟩ := opsl16 hf6 hwo
      have h10 : [e6] = [Value.slice q2 n2 c2] := ee2
      obtain rfl : e6 = .slice q2 n2 c2 := by simpa using h10
      obtain ⟨p0, f0, w0⟩ := flat_cell 8 _ 38 _ _ 0 .i64 hf7 (by kernel_rfl)
      obtain ⟨p1, f1, w1⟩ := flat_cell 8 _ 38 _ _ 1 .i64 hf7 (by kernel_rfl)
      obtain rfl : e7 = .int .i64 p0 := by simpa [cells_pl16] using f0
      obtain rfl : e8 = .int .i64 p1 := by simpa [cells_pl16] using f1
      exact ⟨⟨k0, k1, k2, k3, k4, .slice q1 n1 c1, l1, .slice q2 n2 c2, l2, (p0, p1)⟩, h4 0 (by omega), h4 1 (by omega), h4 2 (by omega), h4 3 (by omega), h4 4 (by omega), h4 5 (by omega), h4 6 (by omega), h4 7 (by omega), h4 8 (by omega), hs1, hs2, hl2, ⟨b0, b1, b3, b4, hb1, hb2, ⟨bounds_i64 w0, bounds_i64 w1⟩⟩⟩
    haveI : Inhabited SeD := ⟨⟨0, 0, false, 0, 0, .nilIface, [], .nilIface, [], (0, 0)⟩⟩
    obtain ⟨L, hL⟩ := Deep.choose_lt key
    have hspot : 0 < len → a'.spot = none := fun h0 => by
      have h1 := (hL 0 h0).1
      have := spot_of_cell h1
      rw [Nat.zero_mul] at this
      simpa [Addr.add] using this
    refine ⟨some a', len, cap, a'.block, a'.off, (List.range len).map L, hcs, ⟨by simp, hl, hm, fun h0 => ?_, fun h0 => ?_, fun j x hx => ?_⟩⟩
    · have hs := hspot h0
      obtain ⟨b, o, s⟩ := a'; cases hs; rfl
    · have := World.block_lt_of_cell? w _ (hL 0 h0).1
      simpa [Addr.add] using this
    · have hj : j < len := by have := (List.getElem?_eq_some_iff.1 hx).1; simpa using this
      have hxj : x = L j := by simp [hj] at hx; exact hx.symm
      subst hxj
      have hs := hspot (by omega)
      obtain ⟨h0, h1, h2, h3, h4, h5, h6, h7, h8, s0, s1, s2, f0⟩ := hL j hj
      rw [add_plain _ hs, add_plain _ rfl] at h0 h1 h2 h3 h4 h5 h6 h7 h8
      exact ⟨h0, h1, h2, h3, h4, h5, h6, h7, h8, s0, s1, s2, f0⟩
/-- A basin that is played. -/
structure CeD where
  sr : Int
  qr : Option Addr
  nr : Nat
  cr : Nat
  res : List Int
  sh : Int
  mo : Int
  q : Option Addr
  n : Nat
  cap : Nat
  g : Nat
  off : Nat
  os : List SeD
def ceA (x : CeD) : Array Value := #[.int .i64 x.sr, .slice x.qr x.nr x.cr, .int .i64 x.sh, .int .i64 x.mo, .slice x.q x.n x.cap]
structure CeZ (W : World) (x : CeD) : Prop where
  sr : J64 x.sr
  re : Is W (.slice x.qr x.nr x.cr) x.res
  rb : In64 x.res
  rl : x.res.length ≤ 17592186043904
  sh : J64 x.sh
  mo : J64 x.mo
  row : SeRow W x.q x.n x.cap x.g x.off x.os
theorem CeZ.keep {W W' : World} {x : CeD} (h : CeZ W x) (hb : Below W.heap.size W W') : CeZ W' x := ⟨h.sr, h.re.keep hb, h.rb, h.rl, h.sh, h.mo, h.row.keep hb⟩
set_option maxHeartbeats 1000000 in
theorem open_case16 {r : Reach} {b0 : Nat} {v : Value} {d : DataW H} {p : List MemPlace} (hv : Value.okWide Try.prog w r b0 62 v) (h : DataW.Trod enc Try.prog w base spare held 62 v d p) (hz : ∀ n ∈ d.weights Try.prog 62, n ≤ reachBytes) :
    ∃ x : CeD, v = .agg (ceA x) ∧ CeZ w x := by
  obtain ⟨cs, rfl, hs, m, xs, rfl, hx⟩ := dy_struct (n := 5) Try.underlying62 (by kernel_rfl) hv h
  obtain ⟨x0, g0, f0⟩ := hx 0 _ rfl
  obtain ⟨x1, g1, f1⟩ := hx 1 _ rfl
  obtain ⟨x2, g2, f2⟩ := hx 2 _ rfl
  obtain ⟨x3, g3, f3⟩ := hx 3 _ rfl
  obtain ⟨x4, g4, f4⟩ := hx 4 _ rfl
  obtain ⟨e0, e1, e2, e3, e4, rfl⟩ : ∃ e0 e1 e2 e3 e4, cs = #[e0, e1, e2, e3, e4] := by
    refine ⟨cs[0], cs[1], cs[2], cs[3], cs[4], ?_⟩
    apply Array.ext
    · simpa using hs
    · intro i h1 h2
      have : i = 0 ∨ i = 1 ∨ i = 2 ∨ i = 3 ∨ i = 4 := by omega
      rcases this with rfl | rfl | rfl | rfl | rfl <;> rfl
  obtain ⟨sr, rfl, b0'⟩ := i64_of (e := e0) f0
  obtain ⟨qr, nr, cr, lr, ee0, h1, h2, h3⟩ := nums16 f1 (fun n hn => hz n (by simp only [DataW.weights, Try.underlying62]; exact DataW.weights_mem_each (j := 1) rfl g1 n hn))
  obtain ⟨sh, rfl, bs⟩ := i64_of (e := e2) f2
  obtain ⟨mo, rfl, bh⟩ := i64_of (e := e3) f3
  obtain ⟨q, n, c, g, off, os, ee3, hr⟩ := script16 f4 (fun n hn => hz n (by simp only [DataW.weights, Try.underlying62]; exact DataW.weights_mem_each (j := 4) rfl g4 n hn))
  have h9 : [e1] = [Value.slice qr nr cr] := ee0
  obtain rfl : e1 = .slice qr nr cr := by simpa using h9
  have h8 : [e4] = [Value.slice q n c] := ee3
  obtain rfl : e4 = .slice q n c := by simpa using h8
  exact ⟨⟨sr, qr, nr, cr, lr, sh, mo, q, n, c, g, off, os⟩, rfl, ⟨b0', h1, h2, h3, bs, bh, hr⟩⟩
end
end Go.Proofs.Ytoeilckeebojmaa
namespace Go.Proofs.Ytoeilckeebojmaa
open Go.ChangeShapes Go.WideShapes Go.ChangeAt Go.RowKit
set_option linter.unusedVariables false
set_option maxRecDepth 100000

section
variable {H : Type} {enc : TypeId × Value → H} {w : World} {base : Nat} {spare : Nat → Bool} {held : Bool}
theorem opsn16 {fuel : Nat} {cs : List Value} {x : DataW H × List MemPlace} (hf : DataW.trod enc Try.prog w base spare held fuel 22 cs = some x) :
    ∃ q n cap l, cs = [.slice q n cap] ∧ ER E5 w (.slice q n cap) l ∧ ∀ p ∈ l, Fit5 p := by
  obtain ⟨q, g, off, len, cap, l, e, hl, hk, hm, hp, hg, hc⟩ := rows_of (n := 5) (D := 8) (fun _ => .i64) Try.underlying22 (by kernel_rfl) (by omega) (kinds_of (by kernel_rfl)) hf
  subst e
  obtain ⟨h1, h2⟩ := er_rows5 hl hk hm hp hg hc
  exact ⟨q, len, cap, _, rfl, h1, h2⟩
theorem open_ops16 {r : Reach} {b0 : Nat} {v : Value} {d : DataW H} {p : List MemPlace} (hv : Value.okWide Try.prog w r b0 22 v) (h : DataW.Trod enc Try.prog w base spare held 22 v d p) : ∃ l, ER E5 w v l ∧ ∀ o ∈ l, Fit5 o := by
  obtain ⟨a, len, cap, rfl⟩ := okWide_slice Try.underlying22 hv
  obtain ⟨fuel, hf⟩ := h
  obtain ⟨q, n, c, l, e, h1, h2⟩ := opsn16 hf
  have e1 : (Value.slice a len cap) = .slice q n c := by simpa [Value.cells] using e
  cases e1
  exact ⟨l, h1, h2⟩
theorem open_places16 {r : Reach} {b0 : Nat} {v : Value} {d : DataW H} {p : List MemPlace} (hv : Value.okWide Try.prog w r b0 36 v) (h : DataW.Trod enc Try.prog w base spare held 36 v d p) : ∃ l, ER E2 w v l ∧ ∀ p ∈ l, J64 p.1 ∧ J64 p.2 := by
  obtain ⟨a, len, cap, rfl⟩ := okWide_slice Try.underlying36 hv
  obtain ⟨fuel, hf⟩ := h
  obtain ⟨q, n, c, l, e, h1, h2⟩ := places16 hf
  have e1 : (Value.slice a len cap) = .slice q n c := by simpa [Value.cells] using e
  cases e1
  exact ⟨l, h1, h2⟩
end
end Go.Proofs.Ytoeilckeebojmaa
namespace Go.Proofs.Ytoeilckeebojmaa
open Go.RowKit Go.Maps
set_option linter.unusedVariables false
set_option maxRecDepth 100000

/-- A call's cells. -/
def seA (x : SeD) : Array Value := #[.int .i64 x.kd, .int .i64 x.sr, .bool x.nx, .int .i64 x.fr, .int .i64 x.la, x.vc, x.vo, .int .i64 x.p.1, .int .i64 x.p.2]
/-- Some answer. -/
def BoolE (e : Ending) : Prop := ∃ b : Bool, e = .returned (.bool b)
theorem boolE (b : Bool) : BoolE (.returned (.bool b)) := ⟨b, rfl⟩
set_option maxHeartbeats 2000000 in
theorem long16_any (x : CeD) (w : World) (h : CeZ w x) : Calls Try.prog 17 #[.agg (ceA x)] w fun e w' => BoolE e ∧ Below w.heap.size w w' := by
  obtain ⟨A, hE, hX, hw⟩ := blk1 w (ceA x) 62
  have hr := h.row.keep hw
  have y1 : A.cell? ⟨w.heap.size, 1, none⟩ = some (.slice x.qr x.nr x.cr) := hX.at rfl
  have y4 : A.cell? ⟨w.heap.size, 4, none⟩ = some (.slice x.q x.n x.cap) := hX.at rfl
  have hrl := h.re.len
  clear h hX
  unfold ceA at hE ⊢
  obtain ⟨sr, qr, nr, cr, res, sh, mo, q, n, cap, g, off, os⟩ := x
  try dsimp only at *
  have hnm : n ≤ 9223372036854775807 := Nat.le_trans hr.fits hr.max
  go_enter Try.func17, Try.ntmps17
  go_wp2_with fail
  clear hE
  go_loopw [3, 12] (fun s z wr => ∃ (k : Nat) (a : Int), k ≤ n ∧ z = .int .i64 (k : Int) ∧ s = .int .i64 a ∧ Below A.heap.size A wr) (fun _ z _ => n - (intOf z).toNat)
  case atStart => exact ⟨0, _, by omega, rfl, rfl, Below.refl _ _⟩
  case round =>
    obtain ⟨k, a, hk, rfl, rfl, hwr⟩ := hrel
    by_cases c : k = n
    · subst c
      go_wp2_with fail
      go_ret
      exact ⟨boolE _, ab_trans hw hwr⟩
    · obtain ⟨y, hy⟩ : ∃ y, os[k]? = some y := ⟨os[k]'(by have := hr.len; omega), List.getElem?_eq_getElem (by have := hr.len; omega)⟩
      have hki : (k : Int) < (n : Int) := by omega
      obtain rfl := hr.ptr (by omega)
      have hy2 := (hr.row k y hy).keep (hr.lt (by omega)) hwr
      obtain ⟨qc, cc, ec⟩ := hy2.sc.form
      obtain ⟨qo, co, eo⟩ := hy2.so.form
      have z0 := hy2.c0
      have z1 := hy2.c1
      have z2 := hy2.c2
      have z3 := hy2.c3
      have z4 := hy2.c4
      have z5 := hy2.c5
      have z6 := hy2.c6
      have z7 := hy2.c7
      have z8 := hy2.c8
      rw [ec] at z5
      rw [eo] at z6
      obtain ⟨A2, hE2, hX2, hw2⟩ := blk1 wr #[.int .i64 y.kd, .int .i64 y.sr, .bool y.nx, .int .i64 y.fr, .int .i64 y.la, .slice qc y.cu.length cc, .slice qo y.ops.length co, .int .i64 y.p.1, .int .i64 y.p.2] 64
      have g5 : A2.cell? ⟨wr.heap.size, 5, none⟩ = some (.slice qc y.cu.length cc) := hX2.at rfl
      have g6 : A2.cell? ⟨wr.heap.size, 6, none⟩ = some (.slice qo y.ops.length co) := hX2.at rfl
      have hA2 := ab_trans hwr hw2
      clear hy2 hy hX2 ec eo
      generalize y.cu.length = nc at *
      generalize y.ops.length = no at *
      go_wp2_with fail
      go_roundw
      case rel => exact ⟨k + 1, _, by omega, by go_num, rfl, hA2⟩
      case measure => simp [intOf]; omega
theorem i64_wrap16 (x : Int) : IntKind.i64.wrap x = wrap64 x := Go.IntWalk.i64_left x
/-- The numbers of a call, with the next one in From's place. -/
def feF (x : SeD) (nx : Int) : Int := if x.nx = true then nx else x.fr
def feL (x : SeD) (nx : Int) : Int := if x.nx = true then wrap64 (wrap64 (x.la + nx) - 1) else x.la
def shO (d : Int) (o : Op5) : Op5 := { o with s := wrap64 (o.s + d) }
def feO (x : SeD) (nx : Int) : List Op5 := if x.nx = true then x.ops.map (shO (wrap64 (nx - 1))) else x.ops
/-- What fed answers. -/
def FedE (K : Bkk) (e : Ending) (w' : World) (x : SeD) (nx : Int) : Prop := ∃ q c, e = .returned (.tuple #[.int .i64 (feF x nx), .int .i64 (feL x nx), .slice q (feO x nx).length c]) ∧ Stay E5 K w' (.slice q (feO x nx).length c) (feO x nx)
theorem feO_fit {x : SeD} (h : SeF x) (nx : Int) : ∀ o ∈ feO x nx, Fit5 o := by
  intro o ho
  unfold feO at ho
  split at ho
  · obtain ⟨y, hy, rfl⟩ := List.mem_map.1 ho
    have := h.ops y hy
    exact ⟨by show J64 (wrap64 _); unfold J64 wrap64; omega, this.k, this.t, this.y, this.v⟩
  · exact h.ops o ho
theorem app_eL {P : Program} {α : Type} {E : En α} {ops : Array Oper} {rest : List Oper} {o : Oper} {a : Act} {w : World} {Q : Exit → Act → World → Prop} (A : World) (hw : Region.wanted o (yielded ops a.tmps) = true) {s x : Operand} {t e : TypeId} {bytes : Nat} {z : Value} (ho : o.op = .call { callee := .builtin .append, args := #[s, x], argTypes := #[t, t] })
    (ht : P.underlying t = some (.slice e)) (hinf : (P.info? e).map (fun i => (i.zero, i.size, i.bytes)) = some (some z, E.k, bytes)) (hz : z.cells.size = E.k)
    {v vx : Value} {l m : List α} (hs : a.eval s = v) (hown : EO E e w A.heap.size v l) (hx : a.eval x = vx) (hsl : ER E w vx m) (h63 : l.length + m.length ≤ 4000000000000) (hbytes : (l.length + m.length) * bytes ≤ 140737488355328) (hA : Below A.heap.size A w)
    (h : ∀ v' w', EO E e w' A.heap.size v' (l ++ m) → Below A.heap.size A w' → w.grownBy w' v.ownBlock → wpList P ops Q rest (a.put o.dst v') w') : wpList P ops Q (o :: rest) a w := by
  obtain ⟨q, cap, rfl, hq, hsrc⟩ := hsl.src
  refine app_ownG A hw ho ht hinf hz E.pos hs hown (E.fl m) hx hq (E.fl_len m) hsrc (E.fl_cell m) (by unfold maxLen; omega) hbytes hA fun v' w' h1 h2 h3 h4 => ?_
  rw [← E.fl_append] at h1
  exact h v' w' (eo_of h1) h3 h4
theorem shO_take {l : List Op5} {k : Nat} {o : Op5} {d : Int} (h : l[k]? = some o) : ((l.take k).map (shO d) ++ l.drop k).set k (shO d o) = (l.take (k + 1)).map (shO d) ++ l.drop (k + 1) := by
  obtain ⟨hk, he⟩ := List.getElem?_eq_some_iff.1 h
  have h1 : ((l.take k).map (shO d)).length = k := by rw [List.length_map, List.length_take]; omega
  rw [List.set_append_right _ _ (by omega), h1, Nat.sub_self, List.drop_eq_getElem_cons hk, List.set_cons_zero, List.take_add_one, h]
  simp
theorem shO_at {l : List Op5} {k : Nat} {o : Op5} {d : Int} (h : l[k]? = some o) : ((l.take k).map (shO d) ++ l.drop k)[k]? = some o := by
  obtain ⟨hk, he⟩ := List.getElem?_eq_some_iff.1 h
  have h1 : ((l.take k).map (shO d)).length = k := by rw [List.length_map, List.length_take]; omega
  rw [List.getElem?_append_right (by omega), h1, Nat.sub_self, List.getElem?_drop, Nat.add_zero, h]
set_option maxHeartbeats 4000000 in
theorem fed16_any {K : Bkk} (x : SeD) (nx : Int) (w : World) (hs : Stay E5 K w x.vo x.ops) (hf : SeF x) (hl : x.ops.length ≤ 3518437208881) (hK : ∀ k, bkB K k → k < w.heap.size) :
    Calls Try.prog 19 #[.agg (seA x), .int .i64 nx] w fun e w' => FedE K e w' x nx ∧ Below w.heap.size w w' := by
  obtain ⟨qo, co, eo⟩ := hs.er.form
  obtain ⟨A, hE, hX, hw⟩ := blk1 w (seA x) 64
  have hX2 : Blk A w.heap.size #[.int .i64 x.kd, .int .i64 x.sr, .bool x.nx, .int .i64 x.fr, .int .i64 x.la, x.vc, .slice qo x.ops.length co, .int .i64 x.p.1, .int .i64 x.p.2] 64 := by
    have := hX
    unfold seA at this
    rw [eo] at this
    exact this
  rw [eo] at hs
  have hsA : Stay E5 K A (.slice qo x.ops.length co) x.ops := hs.frm (frm_below hw)
  have y2 : A.cell? ⟨w.heap.size, 2, none⟩ = some (.bool x.nx) := hX2.at rfl
  have HC : Hid (∀ V, Below A.heap.size A V → V.cell? ⟨w.heap.size, 3, none⟩ = some (.int .i64 x.fr) ∧ V.cell? ⟨w.heap.size, 4, none⟩ = some (.int .i64 x.la) ∧ V.cell? ⟨w.heap.size, 6, none⟩ = some (.slice qo x.ops.length co)) := fun V hb => ⟨(hX2.keep hb).at rfl, (hX2.keep hb).at rfl, (hX2.keep hb).at rfl⟩
  cases hnx : x.nx
  · have HA : Hid (feF x nx = x.fr ∧ feL x nx = x.la ∧ feO x nx = x.ops) := by
      refine ⟨?_, ?_, ?_⟩
      · unfold feF; rw [hnx]; rfl
      · unfold feL; rw [hnx]; rfl
      · unfold feO; rw [hnx]; rfl
    have HS : Hid (Stay E5 K A (.slice qo x.ops.length co) x.ops) := hsA
    rw [hnx] at y2
    unfold seA at hE ⊢
    rw [eo] at hE ⊢
    rw [hnx] at hE ⊢
    clear hs hsA hX hX2 hl eo
    generalize hno : x.ops.length = no at *
    go_enter Try.func19, Try.ntmps19
    go_upto_region 2 with fail
    clear hE
    refine wp_region_held_drew (S := fun w' => Below A.heap.size A w') (by kernel_rfl) (ab_drew (Below.refl _ _)) (fun hHeld => ?_)
    refine takeH (i := 0) (some 12) rfl rfl (by kernel_rfl) (by kernel_rfl) (by kernel_rfl) (fun _ _ _ h => h) (by rfl) (fun w hSw => by (try dsimp only at hSw); go_simp; try rfl) hHeld ?_
    go_frame
    refine takeH (i := 1) (some 13) rfl rfl (by kernel_rfl) (by kernel_rfl) (by kernel_rfl) (fun _ _ _ h => h) (by rfl) (fun w hSw => by (try dsimp only at hSw); (obtain ⟨q3, q4, q6⟩ := HC.out _ hSw; go_simp; try rfl)) hHeld ?_
    go_frame
    refine takeH (i := 2) (some 14) rfl rfl (by kernel_rfl) (by kernel_rfl) (by kernel_rfl) (fun _ _ _ h => h) (by rfl) (fun w hSw => by (try dsimp only at hSw); go_simp; try rfl) hHeld ?_
    go_frame
    refine takeH (i := 3) (some 15) rfl rfl (by kernel_rfl) (by kernel_rfl) (by kernel_rfl) (fun _ _ _ h => h) (by rfl) (fun w hSw => by (try dsimp only at hSw); (obtain ⟨q3, q4, q6⟩ := HC.out _ hSw; go_simp; try rfl)) hHeld ?_
    go_frame
    refine takeH (i := 4) (some 16) rfl rfl (by kernel_rfl) (by kernel_rfl) (by kernel_rfl) (fun _ _ _ h => h) (by rfl) (fun w hSw => by (try dsimp only at hSw); go_simp; try rfl) hHeld ?_
    go_frame
    refine takeH (i := 5) (some 17) rfl rfl (by kernel_rfl) (by kernel_rfl) (by kernel_rfl) (fun _ _ _ h => h) (by rfl) (fun w hSw => by (try dsimp only at hSw); (obtain ⟨q3, q4, q6⟩ := HC.out _ hSw; go_simp; try rfl)) hHeld ?_
    go_frame
    refine takeH (i := 6) (some 4) rfl rfl (by kernel_rfl) (by kernel_rfl) (by kernel_rfl) (fun _ _ _ h => h) (by rfl) (fun w hSw => by (try dsimp only at hSw); go_simp; try rfl) hHeld ?_
    go_frame
    refine takeH (i := 7) (some 5) rfl rfl (by kernel_rfl) (by kernel_rfl) (by kernel_rfl) (fun _ _ _ h => h) (by rfl) (fun w hSw => by (try dsimp only at hSw); go_simp; try rfl) hHeld ?_
    go_frame
    refine takeH (i := 8) (some 6) rfl rfl (by kernel_rfl) (by kernel_rfl) (by kernel_rfl) (fun _ _ _ h => h) (by rfl) (fun w hSw => by (try dsimp only at hSw); go_simp; try rfl) hHeld ?_
    go_frame
    refine wpAnyH_done (by kernel_rfl) ?_ _
    go_wp2_with fail
    go_ret3
    obtain ⟨a1, a2, a3⟩ := HA.out
    refine ⟨⟨qo, co, ?_, ?_⟩, ab_trans hw hHeld⟩
    · rw [a1, a2, a3, hno]; rfl
    · rw [a3, hno]
      exact HS.out.frm (frm_below hHeld)
  · have HA : Hid (feF x nx = nx ∧ feL x nx = wrap64 (wrap64 (x.la + nx) - 1) ∧ feO x nx = x.ops.map (shO (wrap64 (nx - 1)))) := by
      refine ⟨?_, ?_, ?_⟩
      · unfold feF; rw [hnx]; rfl
      · unfold feL; rw [hnx]; rfl
      · unfold feO; rw [hnx]; rfl
    have hER := hsA.er
    rw [hnx] at y2
    obtain ⟨-, -, x6⟩ := HC.out A (Below.refl _ _)
    unfold seA at hE ⊢
    rw [eo] at hE ⊢
    rw [hnx] at hE ⊢
    have hKA : Hid (∀ k, bkB K k → k < A.heap.size) := fun k hk => Nat.lt_of_lt_of_le (hK k hk) hw.size
    clear hs hsA hX hX2 eo
    generalize hno : x.ops.length = no at *
    obtain ⟨A2, hE2, hX2, hw2⟩ := blk1 A #[] 27
    have hO2 : EO E5 27 A2 A.heap.size (.slice (some ⟨A.heap.size, 0, none⟩) 0 0) [] := eo_of (n := 0) (own_blkE (xs := []) hX2 (Nat.le_refl _) rfl (by omega))
    have hER2 := hER.keep hw2
    obtain ⟨-, -, x6'⟩ := HC.out A2 hw2
    go_enter Try.func19, Try.ntmps19
    go_wp2_with (at_builtin; refine app_eL (E := E5) A rfl rfl Try.underlying22 infoOp5 rfl rfl hO2 rfl hER2 (by rw [hno]; show 0 + no ≤ _; omega) (by rw [hno]; show (0 + no) * 40 ≤ _; omega) hw2 ?_; intro v3 W3 hO3 hw3 hg3; obtain ⟨q3, c3, e3⟩ := hO3.form; rw [List.nil_append] at hO3 e3; rw [hno] at e3; subst e3; clear hg3; go_frame)
    clear hE hE2 hX2 hO2 hER2 hER x6 x6' y2
    obtain ⟨d, hd⟩ : ∃ d, d = wrap64 (nx - 1) := ⟨_, rfl⟩
    rw [← hd] at HA
    go_loopw [24] (fun z wr => ∃ k : Nat, k ≤ no ∧ z = .int .i64 (k : Int) ∧ EO E5 27 wr A.heap.size (.slice q3 no c3) ((x.ops.take k).map (shO d) ++ x.ops.drop k) ∧ Below A.heap.size A wr) (fun z _ => no - (intOf z).toNat)
    case atStart => exact ⟨0, by omega, rfl, by simpa using hO3, hw3⟩
    case round =>
      obtain ⟨k, hk, rfl, hOk, hwr⟩ := hrel
      clear hO3 hw3 hw2
      by_cases c : k = no
      · subst c
        rw [List.drop_of_length_le (by omega), List.take_of_length_le (by omega), List.append_nil] at hOk
        have HO : Hid (EO E5 27 wr A.heap.size (.slice q3 k c3) (x.ops.map (shO d))) := hOk
        clear hOk
        go_upto_region 9 with fail
        refine wp_region_held_drew (S := fun w' => Below wr.heap.size wr w') (by kernel_rfl) (ab_drew (Below.refl _ _)) (fun hHeld => ?_)
        refine takeH (i := 0) (some 38) rfl rfl (by kernel_rfl) (by kernel_rfl) (by kernel_rfl) (fun _ _ _ h => h) (by rfl) (fun w hSw => by (try dsimp only at hSw); go_simp; try rfl) hHeld ?_
        go_frame
        refine takeH (i := 1) (some 39) rfl rfl (by kernel_rfl) (by kernel_rfl) (by kernel_rfl) (fun _ _ _ h => h) (by rfl) (fun w hSw => by (try dsimp only at hSw); go_simp; try rfl) hHeld ?_
        go_frame
        refine takeH (i := 2) (some 40) rfl rfl (by kernel_rfl) (by kernel_rfl) (by kernel_rfl) (fun _ _ _ h => h) (by rfl) (fun w hSw => by (try dsimp only at hSw); (obtain ⟨r3, r4, r6⟩ := HC.out _ (ab_trans hwr hSw); go_simp; try rfl)) hHeld ?_
        go_frame
        refine takeH (i := 3) (some 41) rfl rfl (by kernel_rfl) (by kernel_rfl) (by kernel_rfl) (fun _ _ _ h => h) (by rfl) (fun w hSw => by (try dsimp only at hSw); go_simp; try rfl) hHeld ?_
        go_frame
        refine takeH (i := 4) (some 42) rfl rfl (by kernel_rfl) (by kernel_rfl) (by kernel_rfl) (fun _ _ _ h => h) (by rfl) (fun w hSw => by (try dsimp only at hSw); go_simp; try rfl) hHeld ?_
        go_frame
        refine takeH (i := 5) (some 43) rfl rfl (by kernel_rfl) (by kernel_rfl) (by kernel_rfl) (fun _ _ _ h => h) (by rfl) (fun w hSw => by (try dsimp only at hSw); go_simp; try rfl) hHeld ?_
        go_frame
        refine takeH (i := 6) (some 44) rfl rfl (by kernel_rfl) (by kernel_rfl) (by kernel_rfl) (fun _ _ _ h => h) (by rfl) (fun w hSw => by (try dsimp only at hSw); go_simp; try rfl) hHeld ?_
        go_frame
        refine takeH (i := 7) (some 4) rfl rfl (by kernel_rfl) (by kernel_rfl) (by kernel_rfl) (fun _ _ _ h => h) (by rfl) (fun w hSw => by (try dsimp only at hSw); go_simp; try rfl) hHeld ?_
        go_frame
        refine takeH (i := 8) (some 5) rfl rfl (by kernel_rfl) (by kernel_rfl) (by kernel_rfl) (fun _ _ _ h => h) (by rfl) (fun w hSw => by (try dsimp only at hSw); go_simp; try rfl) hHeld ?_
        go_frame
        refine takeH (i := 9) (some 6) rfl rfl (by kernel_rfl) (by kernel_rfl) (by kernel_rfl) (fun _ _ _ h => h) (by rfl) (fun w hSw => by (try dsimp only at hSw); go_simp; try rfl) hHeld ?_
        go_frame
        refine wpAnyH_done (by kernel_rfl) ?_ _
        go_wp2_with fail
        go_ret3
        obtain ⟨a1, a2, a3⟩ := HA.out
        have hOf : EO E5 27 _ A.heap.size (.slice q3 k c3) (x.ops.map (shO d)) := HO.out.keep hHeld
        have hkl : (x.ops.map (shO d)).length = k := by rw [List.length_map]; exact hno
        refine ⟨⟨q3, c3, ?_, ?_⟩, ab_trans hw (ab_trans hwr hHeld)⟩
        · rw [a1, a2, a3, hkl]; simp only [i64_wrap16]; rfl
        · rw [a3, hkl]
          exact stay_out hOf.er (fun a n' c' e hk => by have h9 := (World.ownsRow.lt hOf a.block (by rw [e]; rfl)).1; have := hKA.out _ hk; omega)
      · obtain ⟨o, ho⟩ : ∃ o, x.ops[k]? = some o := ⟨x.ops[k]'(by omega), List.getElem?_eq_getElem (by omega)⟩
        have hki : (k : Int) < (no : Int) := by omega
        have hkn : k < no := by omega
        obtain ⟨q, cq, eq⟩ : ∃ g cq, (Value.slice q3 no c3) = .slice (some ⟨g, 0, none⟩) no cq := by
          rcases hOk.2 with ⟨h9, h8⟩ | ⟨g, cap, cur, h9, -⟩
          · exfalso
            rw [List.length_append, List.length_map, List.length_take, List.length_drop] at h8
            omega
          · cases h9; exact ⟨_, _, rfl⟩
        cases eq
        obtain ⟨hR, hq⟩ := hOk.rw
        have z0 : wr.cell? ⟨q, k * 5, none⟩ = some (.int .i64 o.s) := hR.cell (i := 0) (shO_at ho) rfl
        have f0 := hR.chgc (k * 5)
        have HR : Hid (Rw E5 27 (wr.setCell ⟨q, k * 5, none⟩ (.int .i64 (wrap64 (o.s + d)))) q c3 ((x.ops.take (k + 1)).map (shO d) ++ x.ops.drop (k + 1))) := by
          have := hR.setc (j := 0) (c' := shO d o) (v := .int .i64 (wrap64 (o.s + d))) (shO_at ho) (by show 0 < 5; omega) rfl
          rw [shO_take ho] at this
          exact this
        have HCg : Hid (Chg q wr (wr.setCell ⟨q, k * 5, none⟩ (.int .i64 (wrap64 (o.s + d))))) := chg_set _ _ _ _
        clear hR hOk ho
        rw [hd] at HR HCg
        go_wp2_with fail
        go_roundw
        case rel =>
          have hlL : ((x.ops.take (k + 1)).map (shO (wrap64 (nx - 1))) ++ x.ops.drop (k + 1)).length = no := by rw [List.length_append, List.length_map, List.length_take, List.length_drop]; omega
          have h8 := HR.out.eo hq (i := no) (by rw [hlL]; exact Nat.le_refl _)
          rw [List.take_of_length_le (by rw [hlL]; exact Nat.le_refl _)] at h8
          exact ⟨k + 1, by omega, by go_num, by rw [hd]; exact h8, ab_chg hwr HCg.out hq⟩
        case measure => simp [intOf]; omega
end Go.Proofs.Ytoeilckeebojmaa
namespace Go.Proofs.Ytoeilckeebojmaa
open Go.RowKit
set_option linter.unusedVariables false
set_option maxRecDepth 100000

/-- A slice that came in stays, whatever a basin's calls turn. -/
theorem stay_in {α : Type} {E : En α} {K : Bkk} {A W : World} {v : Value} {l : List α} (h : ER E A v l) (hX : ∀ k, bkB K k → A.heap.size ≤ k) (hb : Below A.heap.size A W) : Stay E K W v l := by
  by_cases h0 : 0 < l.length
  · exact stay_out (h.keep hb) (ER.outB16 h h0 hX)
  · intro V hV
    obtain ⟨q, cap, g, off, h1, h2, h3, h4, h5⟩ := h
    have hl : l = [] := List.length_eq_zero_iff.1 (by omega)
    subst hl
    exact ⟨q, cap, g, off, h1, h2, h3, fun h => absurd h h0, fun j u hu => by simp [En.fl] at hu⟩
theorem feL_J {x : SeD} (h : SeF x) (nx : Int) : J64 (feL x nx) := by
  unfold feL
  split
  · unfold J64 wrap64; omega
  · exact h.la
structure FdU (T T' : Bsn) (n fr la : Int) (ops : List Op5) (r : Nat) : Prop where
  res : T'.res = T.res
  sh : T'.sh = T.sh
  mo : T'.mo = T.mo
  fl : T'.fl.length = T.fl.length
  np : npB T'
  cs : r = 0 ∨ r = 7 ∨ r = 2 ∨ r = 11
  all : (r = 0 ∨ r = 7) → ∀ p ∈ ops, p.k ≠ 2 → (r = 0 ∨ p.s < nxN T' n) → ∀ k ∈ idL p.t p.y T.sh T.res, decide (k ∈ T'.ks) = !pasB T'.ba k
  nx : r = 7 → fr ≤ nxN T' n ∧ nxN T' n ≤ la
def FdE (B : Nat) (K : Bkk) (T : Bsn) (n fr la : Int) (ops : List Op5) (e : Ending) (w w' : World) : Prop := ∃ r T', e = .returned (errV r) ∧ Bq w' B K T' ∧ Frm (bkB K) w w' ∧ FdU T T' n fr la ops r
theorem bafeed_u {B : Nat} {K : Bkk} {T : Bsn} (src fr la : Int) (vc vo : Value) (cut : List (Int × Int)) (ops : List Op5) (w : World) (h : Bq w B K T) (hn : npB T) (hc : Stay E2 K w vc cut) (hO : Stay E5 K w vo ops)
    (hcj : ∀ p ∈ cut, J64 p.1 ∧ J64 p.2) (hoj : ∀ o ∈ ops, Fit5 o) (hla : J64 la) :
    Calls Try.prog 11 #[bptr K, .int .i64 src, .int .i64 fr, .int .i64 la, vc, vo] w fun e w' => FdE B K T src fr la ops e w w' := by
  by_cases hf : fdF T src fr la cut ops
  · obtain ⟨i, rfl, hi⟩ := hasN_no (n := src) (m := T.fl.length) (decide_eq_true hf.1)
    obtain ⟨f, hfi⟩ : ∃ f, T.fl[i]? = some f := ⟨T.fl[i], List.getElem?_eq_getElem hi⟩
    by_cases hx : fr = f.nx
    · refine (bafeed_ok i fr la vc vo cut ops w h hc hO hf hfi hx hcj hoj hla).mono ?_
      rintro e w' ⟨rfl, hB, hF⟩
      have hk := fd_kept (cut := cut) (S := T) (la := la) hf.2.2.2 hi
      have hnx : nxN (fdZ T i la cut ops) (i : Int) = nxOf (fdZ T i la cut ops) i := by
        unfold nxN
        rw [if_pos (show hasN (i : Int) (fdZ T i la cut ops).fl.length = true from decide_eq_true (by rw [hk.fl]; omega)), Int.toNat_natCast]
      refine ⟨_, _, rfl, hB, hF, hk.res, hk.sh, hk.mo, hk.fl, hk.np, ?_, fun _ p hp hk2 hs k hkm => ?_, fun h7 => ?_⟩
      · unfold tkE
        cases (fdR T i cut ops).2 with
        | none => exact .inl rfl
        | some s => exact .inr (.inl rfl)
      · refine hk.all p hp hk2 (fun s hs2 => ?_) k (by rw [hk.sh, hk.res]; exact hkm)
        rcases hs with h0 | h1
        · unfold tkE at h0
          rw [hs2] at h0
          cases h0
        · rw [hnx, (hk.nx s hs2).1] at h1
          exact h1
      · unfold tkE at h7
        cases hr : (fdR T i cut ops).2 with
        | none => rw [hr] at h7; cases h7
        | some s =>
          obtain ⟨e1, e2, e3⟩ := hk.nx s hr
          rw [hnx, e1]
          exact ⟨e2, e3⟩
    · refine (bafeed_stale i fr la vc vo cut ops w h hc.er hO.er hf hfi hx).mono ?_
      rintro e w' ⟨rfl, hb⟩
      exact ⟨11, T, by rw [errV_no (by omega)]; rfl, h.keep hb, frm_below hb, rfl, rfl, rfl, rfl, hn, by omega, fun h => by omega, fun h => by omega⟩
  · refine (bafeed_form src fr la vc vo cut ops w h hc.er hO.er hf).mono ?_
    rintro e w' ⟨rfl, hb⟩
    exact ⟨2, T, by rw [errV_no (by omega)]; rfl, h.keep hb, frm_below hb, rfl, rfl, rfl, rfl, hn, by omega, fun h => by omega, fun h => by omega⟩
end Go.Proofs.Ytoeilckeebojmaa
namespace Go.Proofs.Ytoeilckeebojmaa
open Go.ChangeShapes Go.WideShapes Go.ChangeAt Go.RowKit
set_option linter.unusedVariables false
set_option maxRecDepth 100000

/-- A row of bools. -/
structure Bs (W : World) (q : Option Addr) (n cap g off : Nat) (l : List Bool) : Prop where
  len : l.length = n
  fits : n ≤ cap
  max : cap ≤ 9223372036854775807
  ptr : 0 < n → q = some ⟨g, off, none⟩
  lt : 0 < n → g < W.heap.size
  row : ∀ j x, l[j]? = some x → W.cell? ⟨g, off + j, none⟩ = some (.bool x)
section
variable {H : Type} {enc : TypeId × Value → H} {w : World} {base : Nat} {spare : Nat → Bool} {held : Bool}
theorem open_bools16 {r : Reach} {b0 : Nat} {v : Value} {d : DataW H} {p : List MemPlace} (hv : Value.okWide Try.prog w r b0 80 v) (h : DataW.Trod enc Try.prog w base spare held 80 v d p) : ∃ q n cap g off l, v = .slice q n cap ∧ Bs w q n cap g off l := by
  obtain ⟨a, len, cap, rfl⟩ := okWide_slice Try.underlying80 hv
  obtain ⟨fuel, hf⟩ := h
  rcases Deep.open_slice1 Try.underlying80 (by kernel_rfl) hf with ⟨hcs, _⟩ | ⟨a', len', cap', m, n', V, D', Pl, hcs, hb, hl, hm, hmm, hx, hel⟩
  · have e1 : (Value.slice a len cap) = .slice none 0 0 := by simpa [Value.cells] using hcs
    exact ⟨none, 0, 0, 0, 0, [], e1, rfl, by omega, by omega, fun h => absurd h (by omega), fun h => absurd h (by omega), fun j c hc => by simp at hc⟩
  · have e1 : (Value.slice a len cap) = .slice (some a') len' cap' := by simpa [Value.cells] using hcs
    cases e1
    have hle : len ≤ m := by rw [hmm]; split <;> omega
    have key : ∀ j, j < len → ∃ l, V j = .bool l := fun j hj => by
      obtain ⟨_, h2⟩ := hel j (by omega)
      obtain ⟨b, e, -⟩ := DataW.trod_bool Try.underlying4 h2
      exact ⟨b, by simpa using e⟩
    obtain ⟨L, hL⟩ := Deep.choose_lt key
    have hspot : 0 < len → a'.spot = none := fun h0 => by
      have hc0 := (hel 0 (by omega)).1
      have := spot_of_cell hc0
      simpa [Addr.add] using this
    refine ⟨some a', len, cap, a'.block, a'.off, (List.range len).map L, rfl, by simp, hl, hm, fun h0 => ?_, fun h0 => ?_, fun j x hx => ?_⟩
    · have hs := hspot h0
      obtain ⟨b, o, s⟩ := a'; cases hs; rfl
    · have hc0 := (hel 0 (by omega)).1
      have := World.block_lt_of_cell? w _ hc0
      simpa [Addr.add] using this
    · have hj : j < len := by have := (List.getElem?_eq_some_iff.1 hx).1; simpa using this
      have hxj : x = L j := by simp [hj] at hx; exact hx.symm
      subst hxj
      have hs := hspot (by omega)
      have := (hel j (by omega)).1
      rwa [add_plain _ hs, hL j hj] at this
end
end Go.Proofs.Ytoeilckeebojmaa
