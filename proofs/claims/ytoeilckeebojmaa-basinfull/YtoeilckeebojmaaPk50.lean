/-
  What comes in to the laws on basins: basins that are played.
-/
import Derived.Test.YtoeilckeebojmaaPk36
import Derived.Test.YtoeilckeebojmaaPk29
import Derived.Test.YtoeilckeebojmaaPk08
import Derived.Test.YtoeilckeebojmaaPk31
import Derived.Test.YtoeilckeebojmaaPk33
namespace Go.Proofs.Ytoeilckeebojmaa
open Go.ChangeShapes Go.WideShapes Go.ChangeAt Go.RowKit
set_option linter.unusedVariables false
set_option maxRecDepth 100000

theorem er_rows16 {W : World} {q : Option Addr} {g off n cap : Nat} {l : List (Nat → Int)} (hn : l.length = n) (hc : n ≤ cap) (hm : cap ≤ 9223372036854775807) (hp : 0 < n → q = some ⟨g, off, none⟩) (hg : 0 < n → g < W.heap.size)
    (hr : ∀ j c, l[j]? = some c → ∀ i, i < 2 → W.cell? ⟨g, off + j * 2 + i, none⟩ = some (.int .i64 (c i)) ∧ (Lit.int .i64 (c i)).wf = true) : ER E2 W (.slice q n cap) (l.map fun c => (c 0, c 1)) ∧ ∀ p ∈ l.map (fun c => (c 0, c 1)), J64 p.1 ∧ J64 p.2 := by
  have hl : (l.map fun c => (c 0, c 1)).length = n := by rw [List.length_map]; exact hn
  refine ⟨⟨q, cap, g, off, by rw [hl], by rw [hl]; exact hc, hm, fun h => ⟨hp (by rwa [hl] at h), hg (by rwa [hl] at h)⟩, fun j u hu => ?_⟩, fun p hp => ?_⟩
  · have hj := (List.getElem?_eq_some_iff.1 hu).1
    rw [E2.fl_len, hl] at hj
    have hjd : j / 2 < l.length := by rw [hn]; exact Nat.div_lt_of_lt_mul (by rw [Nat.mul_comm]; exact hj)
    have hm2 : j % 2 < 2 := Nat.mod_lt _ (by omega)
    have hx := hr (j / 2) _ (List.getElem?_eq_getElem hjd) (j % 2) hm2
    have hy := E2.fl_at (l.map fun c => (c 0, c 1)) (j / 2) _ (by rw [List.getElem?_map, List.getElem?_eq_getElem hjd]; rfl) (j % 2) (.int .i64 (l[j / 2] (j % 2))) (by
      have : j % 2 = 0 ∨ j % 2 = 1 := by omega
      rcases this with e | e <;> rw [e] <;> rfl)
    rw [show j / 2 * E2.k + j % 2 = j by show j / 2 * 2 + j % 2 = j; omega, hu] at hy
    cases hy
    rw [show off + j = off + j / 2 * 2 + j % 2 by omega]
    exact hx.1
  · obtain ⟨c, hc, rfl⟩ := List.mem_map.1 hp
    obtain ⟨j, hj⟩ := List.mem_iff_getElem?.1 hc
    exact ⟨bounds_i64 (hr j c hj 0 (by omega)).2, bounds_i64 (hr j c hj 1 (by omega)).2⟩
theorem er_rows5 {W : World} {q : Option Addr} {g off n cap : Nat} {l : List (Nat → Int)} (hn : l.length = n) (hc : n ≤ cap) (hm : cap ≤ 9223372036854775807) (hp : 0 < n → q = some ⟨g, off, none⟩) (hg : 0 < n → g < W.heap.size)
    (hr : ∀ j c, l[j]? = some c → ∀ i, i < 5 → W.cell? ⟨g, off + j * 5 + i, none⟩ = some (.int .i64 (c i)) ∧ (Lit.int .i64 (c i)).wf = true) : ER E5 W (.slice q n cap) (l.map fun c => (⟨c 0, c 1, c 2, c 3, c 4⟩ : Op5)) ∧ ∀ p ∈ l.map (fun c => (⟨c 0, c 1, c 2, c 3, c 4⟩ : Op5)), Fit5 p := by
  have hl : (l.map fun c => (⟨c 0, c 1, c 2, c 3, c 4⟩ : Op5)).length = n := by rw [List.length_map]; exact hn
  refine ⟨⟨q, cap, g, off, by rw [hl], by rw [hl]; exact hc, hm, fun h => ⟨hp (by rwa [hl] at h), hg (by rwa [hl] at h)⟩, fun j u hu => ?_⟩, fun p hp => ?_⟩
  · have hj := (List.getElem?_eq_some_iff.1 hu).1
    rw [E5.fl_len, hl] at hj
    have hjd : j / 5 < l.length := by rw [hn]; exact Nat.div_lt_of_lt_mul (by rw [Nat.mul_comm]; exact hj)
    have hm2 : j % 5 < 5 := Nat.mod_lt _ (by omega)
    have hx := hr (j / 5) _ (List.getElem?_eq_getElem hjd) (j % 5) hm2
    have hy := E5.fl_at (l.map fun c => (⟨c 0, c 1, c 2, c 3, c 4⟩ : Op5)) (j / 5) _ (by rw [List.getElem?_map, List.getElem?_eq_getElem hjd]; rfl) (j % 5) (.int .i64 (l[j / 5] (j % 5))) (by
      have : j % 5 = 0 ∨ j % 5 = 1 ∨ j % 5 = 2 ∨ j % 5 = 3 ∨ j % 5 = 4 := by omega
      rcases this with e | e | e | e | e <;> rw [e] <;> rfl)
    rw [show j / 5 * E5.k + j % 5 = j by show j / 5 * 5 + j % 5 = j; omega, hu] at hy
    cases hy
    rw [show off + j = off + j / 5 * 5 + j % 5 by omega]
    exact hx.1
  · obtain ⟨c, hc, rfl⟩ := List.mem_map.1 hp
    obtain ⟨j, hj⟩ := List.mem_iff_getElem?.1 hc
    exact ⟨bounds_i64 (hr j c hj 0 (by omega)).2, bounds_i64 (hr j c hj 1 (by omega)).2, bounds_i64 (hr j c hj 2 (by omega)).2, bounds_i64 (hr j c hj 3 (by omega)).2, bounds_i64 (hr j c hj 4 (by omega)).2⟩
theorem ER.outB16 {α : Type} {E : En α} {W : World} {v : Value} {l : List α} {X : Nat → Prop} (h : ER E W v l) (hl : 0 < l.length) (hX : ∀ k, X k → W.heap.size ≤ k) : OutB v X := by
  obtain ⟨q, cap, g, off, rfl, h2, h3, h4, h5⟩ := h
  obtain ⟨rfl, hg⟩ := h4 hl
  intro a n c e hx
  cases e
  have := hX _ hx
  exact absurd hg (by show ¬ g < W.heap.size; have h9 : W.heap.size ≤ g := this; omega)
/-- A call. -/
structure SeD where
  kd : Int
  sr : Int
  nx : Bool
  fr : Int
  la : Int
  vc : Value
  cu : List (Int × Int)
  vo : Value
  ops : List Op5
  p : Int × Int
structure SeF (x : SeD) : Prop where
  kd : J64 x.kd
  sr : J64 x.sr
  fr : J64 x.fr
  la : J64 x.la
  cu : ∀ p ∈ x.cu, J64 p.1 ∧ J64 p.2
  ops : ∀ o ∈ x.ops, Fit5 o
  p : J64 x.p.1 ∧ J64 x.p.2
structure SeAt (W : World) (g o : Nat) (x : SeD) : Prop where
  c0 : W.cell? ⟨g, o, none⟩ = some (.int .i64 x.kd)
  c1 : W.cell? ⟨g, o + 1, none⟩ = some (.int .i64 x.sr)
  c2 : W.cell? ⟨g, o + 2, none⟩ = some (.bool x.nx)
  c3 : W.cell? ⟨g, o + 3, none⟩ = some (.int .i64 x.fr)
  c4 : W.cell? ⟨g, o + 4, none⟩ = some (.int .i64 x.la)
  c5 : W.cell? ⟨g, o + 5, none⟩ = some x.vc
  c6 : W.cell? ⟨g, o + 6, none⟩ = some x.vo
  c7 : W.cell? ⟨g, o + 7, none⟩ = some (.int .i64 x.p.1)
  c8 : W.cell? ⟨g, o + 8, none⟩ = some (.int .i64 x.p.2)
  sc : ER E2 W x.vc x.cu
  so : ER E5 W x.vo x.ops
  few : x.ops.length ≤ 3518437208881
  fit : SeF x
theorem SeAt.keep {W W' : World} {g o : Nat} {x : SeD} (h : SeAt W g o x) (hg : g < W.heap.size) (hb : Below W.heap.size W W') : SeAt W' g o x :=
  ⟨keep_cell hb h.c0 hg, keep_cell hb h.c1 hg, keep_cell hb h.c2 hg, keep_cell hb h.c3 hg, keep_cell hb h.c4 hg, keep_cell hb h.c5 hg, keep_cell hb h.c6 hg, keep_cell hb h.c7 hg, keep_cell hb h.c8 hg, h.sc.keep hb, h.so.keep hb, h.few, h.fit⟩
structure SeRow (W : World) (q : Option Addr) (n cap g off : Nat) (os : List SeD) : Prop where
  len : os.length = n
  fits : n ≤ cap
  max : cap ≤ 9223372036854775807
  ptr : 0 < n → q = some ⟨g, off, none⟩
  lt : 0 < n → g < W.heap.size
  row : ∀ j x, os[j]? = some x → SeAt W g (off + j * 9) x
theorem SeRow.keep {W W' : World} {q : Option Addr} {n cap g off : Nat} {os : List SeD} (h : SeRow W q n cap g off os) (hb : Below W.heap.size W W') : SeRow W' q n cap g off os :=
  ⟨h.len, h.fits, h.max, h.ptr, fun h0 => Nat.lt_of_lt_of_le (h.lt h0) hb.size, fun j x hx => (h.row j x hx).keep (h.lt (by have := (List.getElem?_eq_some_iff.1 hx).1; have := h.len; omega)) hb⟩
section
variable {H : Type} {enc : TypeId × Value → H} {w : World} {base : Nat} {spare : Nat → Bool} {held : Bool}
theorem b_of {fuel : Nat} {e : Value} {x : DataW H × List MemPlace} (hf : DataW.trod enc Try.prog w base spare held fuel 4 [e] = some x) : ∃ b, e = .bool b := by
  obtain ⟨b, e1, -⟩ := DataW.trod_bool Try.underlying4 hf
  exact ⟨b, by simpa using e1⟩
theorem nums16 {fuel : Nat} {cs : List Value} {x : DataW H × List MemPlace} (hf : DataW.trod enc Try.prog w base spare held fuel 23 cs = some x) (hw : ∀ n ∈ x.1.weights Try.prog 23, n ≤ reachBytes) :
    ∃ q n cap l, cs = [.slice q n cap] ∧ Is w (.slice q n cap) l ∧ In64 l ∧ l.length ≤ 17592186043904 := by
  obtain ⟨q, g, off, len, cap, l, e, hl, hk, hm, hp, hg, hc⟩ := rows_of (n := 1) (D := 8) (fun _ => .i64) Try.underlying23 (by kernel_rfl) (by omega) (kinds_of (by kernel_rfl)) hf
  subst e
  have z := len_ofT Try.underlying23 hf hw
  rw [show Try.prog.bytesOf 3 = 8 by kernel_rfl] at z
  unfold reachBytes at z
  obtain ⟨h1, h2⟩ := is_rows hl hk hm hp hg hc
  exact ⟨q, len, cap, _, rfl, h1, h2, by rw [List.length_map]; omega⟩
theorem places16 {fuel : Nat} {cs : List Value} {x : DataW H × List MemPlace} (hf : DataW.trod enc Try.prog w base spare held fuel 36 cs = some x) :
    ∃ q n cap l, cs = [.slice q n cap] ∧ ER E2 w (.slice q n cap) l ∧ ∀ p ∈ l, J64 p.1 ∧ J64 p.2 := by
  obtain ⟨q, g, off, len, cap, l, e, hl, hk, hm, hp, hg, hc⟩ := rows_of (n := 2) (D := 8) (fun _ => .i64) Try.underlying36 (by kernel_rfl) (by omega) (kinds_of (by kernel_rfl)) hf
  obtain ⟨h1, h2⟩ := er_rows16 hl hk hm hp hg hc
  exact ⟨q, len, cap, _, e, h1, h2⟩
theorem opsl16 {fuel : Nat} {cs : List Value} {x : DataW H × List MemPlace} (hf : DataW.trod enc Try.prog w base spare held fuel 22 cs = some x) (hw : ∀ n ∈ x.1.weights Try.prog 22, n ≤ reachBytes) :
    ∃ q n cap l, cs = [.slice q n cap] ∧ ER E5 w (.slice q n cap) l ∧ (∀ p ∈ l, Fit5 p) ∧ l.length ≤ 3518437208881 := by
  obtain ⟨q, g, off, len, cap, l, e, hl, hk, hm, hp, hg, hc⟩ := rows_of (n := 5) (D := 8) (fun _ => .i64) Try.underlying22 (by kernel_rfl) (by omega) (kinds_of (by kernel_rfl)) hf
  subst e
  have z := len_ofT Try.underlying22 hf hw
  rw [show Try.prog.bytesOf 27 = 40 by kernel_rfl] at z
  unfold reachBytes at z
  obtain ⟨h1, h2⟩ := er_rows5 hl hk hm hp hg hc
  exact ⟨q, len, cap, _, rfl, h1, h2, by rw [List.length_map]; omega⟩
set_option maxHeartbeats 1000000 in
theorem script16 {fuel : Nat} {cs : List Value} {y : DataW H × List MemPlace} (hf : DataW.trod enc Try.prog w base spare held fuel 60 cs = some y) (hw : ∀ n ∈ y.1.weights Try.prog 60, n ≤ reachBytes) :
    ∃ (q : Option Addr) (n cap g off : Nat) (os : List SeD), cs = [.slice q n cap] ∧ SeRow w q n cap g off os := by
  rcases Deep.open_slice Try.underlying60 hf with ⟨hcs, _⟩ | ⟨a', len, cap, m, n', D', Pl, hcs, hb, hl, hm, hmm, hx, hel⟩
  · exact ⟨none, 0, 0, 0, 0, [], hcs, rfl, by omega, by omega, fun h => absurd h (by omega), fun h => absurd h (by omega), fun j c hc => by simp at hc⟩
  · have hle : len ≤ m := by rw [hmm]; split <;> omega
    have z : len * Try.prog.bytesOf 64 ≤ reachBytes := by
      have hf2 := hf
      rw [hcs] at hf2
      exact len_ofT Try.underlying60 hf2 hw
    rw [show Try.prog.bytesOf 64 = 104 by kernel_rfl] at z
    unfold reachBytes at z
    have hxd : y.1 = .slice ((List.range len).map D') ((List.range (m - len)).map fun j => D' (len + j)) := congrArg Prod.fst hx
    have key : ∀ j, j < len → ∃ x : SeD, w.cell? ((a'.add (j * 9)).add 0) = some (.int .i64 x.kd) ∧ w.cell? ((a'.add (j * 9)).add 1) = some (.int .i64 x.sr) ∧ w.cell? ((a'.add (j * 9)).add 2) = some (.bool x.nx) ∧ w.cell? ((a'.add (j * 9)).add 3) = some (.int .i64 x.fr) ∧ w.cell? ((a'.add (j * 9)).add 4) = some (.int .i64 x.la) ∧ w.cell? ((a'.add (j * 9)).add 5) = some x.vc ∧ w.cell? ((a'.add (j * 9)).add 6) = some x.vo ∧ w.cell? ((a'.add (j * 9)).add 7) = some (.int .i64 x.p.1) ∧ w.cell? ((a'.add (j * 9)).add 8) = some (.int .i64 x.p.2) ∧ ER E2 w x.vc x.cu ∧ ER E5 w x.vo x.ops ∧ x.ops.length ≤ 3518437208881 ∧ SeF x := by
      intro j hj
      obtain ⟨cs', h1, h2⟩ := hel j (by omega)
      rw [show Try.prog.cellsOf 64 = 9 by kernel_rfl] at h1
      obtain ⟨_, h3, h4⟩ := World.cells?_some h1
      have hzj : ∀ n ∈ (D' j).weights Try.prog 64, n ≤ reachBytes := fun n hn => hw n (by
        rw [hxd]
        simp only [DataW.weights, Try.underlying60]
        exact List.mem_cons_of_mem _ (List.mem_append_left _ (weights_mem_all (List.mem_map.2 ⟨j, List.mem_range.2 hj, rfl⟩) n hn)))
      obtain ⟨xs, m', _, hxe, _, hxl, hxx⟩ := DataW.trod_struct Try.underlying64 h2
      have hxe1 : D' j = .agg (xs.map (·.1)) := congrArg Prod.fst hxe
      rw [hxe1] at hzj
      have hf0 := hxx 0 _ rfl
      have hf1 := hxx 1 _ rfl
      have hf2 := hxx 2 _ rfl
      have hf3 := hxx 3 _ rfl
      have hf4 := hxx 4 _ rfl
      have hf5 := hxx 5 _ rfl
      have hf6 := hxx 6 _ rfl
      have hf7 := hxx 7 _ rfl
      have hsz : xs.length = 8 := hxl
      rw [List.getElem?_eq_getElem (by omega)] at hf0 hf1 hf2 hf3 hf4 hf5 hf6 hf7
      have hwo : ∀ n ∈ (xs[6]'(by omega)).1.weights Try.prog 22, n ≤ reachBytes := fun n hn => hzj n (by simp only [DataW.weights, Try.underlying64]; exact DataW.weights_mem_each (j := 6) rfl (by rw [List.getElem?_map, List.getElem?_eq_getElem (by omega)]; rfl) n hn)
      obtain ⟨e0, e1, e2, e3, e4, e5, e6, e7, e8, rfl⟩ : ∃ e0 e1 e2 e3 e4 e5 e6 e7 e8, cs' = [e0, e1, e2, e3, e4, e5, e6, e7, e8] := by
        match cs', h3 with
        | [e0, e1, e2, e3, e4, e5, e6, e7, e8], _ => exact ⟨e0, e1, e2, e3, e4, e5, e6, e7, e8, rfl⟩
      obtain ⟨k0, rfl, b0⟩ := i64_of (e := e0) hf0
      obtain ⟨k1, rfl, b1⟩ := i64_of (e := e1) hf1
      obtain ⟨k2, rfl⟩ := b_of (e := e2) hf2
      obtain ⟨k3, rfl, b3⟩ := i64_of (e := e3) hf3
      obtain ⟨k4, rfl, b4⟩ := i64_of (e := e4) hf4
      obtain ⟨q1, n1, c1, l1, ee1, hs1, hb1⟩ := places16 hf5
      have h9 : [e5] = [Value.slice q1 n1 c1] := ee1
      obtain rfl : e5 = .slice q1 n1 c1 := by simpa using h9
      obtain ⟨q2, n2, c2, l2, ee2, hs2, hb2, hl2⟩ := opsl16 hf6 hwo
      have h10 : [e6] = [Value.slice q2 n2 c2] := ee2
      obtain rfl : e6 = .slice q2 n2 c2 := by simpa using h10
      obtain ⟨p0, f0, w0⟩ := flat_cell 8 _ 38 _ _ 0 .i64 hf7 (by kernel_rfl)
      obtain ⟨p1, f1, w1⟩ := flat_cell 8 _ 38 _ _ 1 .i64 hf7 (by kernel_rfl)
      obtain rfl : e7 = .int .i64 p0 := by simpa [cells_pl16] using f0
      obtain rfl : e8 = .int .i64 p1 := by simpa [cells_pl16] using f1
      exact ⟨⟨k0, k1, k2, k3, k4, .slice q1 n1 c1, l1, .slice q2 n2 c2, l2, (p0, p1)⟩, h4 0 (by omega), h4 1 (by omega), h4 2 (by omega), h4 3 (by omega), h4 4 (by omega), h4 5 (by omega), h4 6 (by omega), h4 7 (by omega), h4 8 (by omega), hs1, hs2, hl2, ⟨b0, b1, b3, b4, hb1, hb2, ⟨bounds_i64 w0, bounds_i64 w1⟩⟩⟩
    haveI : Inhabited SeD := ⟨⟨0, 0, false, 0, 0, .nilIface, [], .nilIface, [], (0, 0)⟩⟩
    obtain ⟨L, hL⟩ := Deep.choose_lt key
    have hspot : 0 < len → a'.spot = none := fun h0 => by
      have h1 := (hL 0 h0).1
      have := spot_of_cell h1
      rw [Nat.zero_mul] at this
      simpa [Addr.add] using this
    refine ⟨some a', len, cap, a'.block, a'.off, (List.range len).map L, hcs, ⟨by simp, hl, hm, fun h0 => ?_, fun h0 => ?_, fun j x hx => ?_⟩⟩
    · have hs := hspot h0
      obtain ⟨b, o, s⟩ := a'; cases hs; rfl
    · have := World.block_lt_of_cell? w _ (hL 0 h0).1
      simpa [Addr.add] using this
    · have hj : j < len := by have := (List.getElem?_eq_some_iff.1 hx).1; simpa using this
      have hxj : x = L j := by simp [hj] at hx; exact hx.symm
      subst hxj
      have hs := hspot (by omega)
      obtain ⟨h0, h1, h2, h3, h4, h5, h6, h7, h8, s0, s1, s2, f0⟩ := hL j hj
      rw [add_plain _ hs, add_plain _ rfl] at h0 h1 h2 h3 h4 h5 h6 h7 h8
      exact ⟨h0, h1, h2, h3, h4, h5, h6, h7, h8, s0, s1, s2, f0⟩
/-- A basin that is played. -/
structure CeD where
  sr : Int
  qr : Option Addr
  nr : Nat
  cr : Nat
  res : List Int
  sh : Int
  mo : Int
  q : Option Addr
  n : Nat
  cap : Nat
  g : Nat
  off : Nat
  os : List SeD
def ceA (x : CeD) : Array Value := #[.int .i64 x.sr, .slice x.qr x.nr x.cr, .int .i64 x.sh, .int .i64 x.mo, .slice x.q x.n x.cap]
structure CeZ (W : World) (x : CeD) : Prop where
  sr : J64 x.sr
  re : Is W (.slice x.qr x.nr x.cr) x.res
  rb : In64 x.res
  rl : x.res.length ≤ 17592186043904
  sh : J64 x.sh
  mo : J64 x.mo
  row : SeRow W x.q x.n x.cap x.g x.off x.os
theorem CeZ.keep {W W' : World} {x : CeD} (h : CeZ W x) (hb : Below W.heap.size W W') : CeZ W' x := ⟨h.sr, h.re.keep hb, h.rb, h.rl, h.sh, h.mo, h.row.keep hb⟩
set_option maxHeartbeats 1000000 in
theorem open_case16 {r : Reach} {b0 : Nat} {v : Value} {d : DataW H} {p : List MemPlace} (hv : Value.okWide Try.prog w r b0 62 v) (h : DataW.Trod enc Try.prog w base spare held 62 v d p) (hz : ∀ n ∈ d.weights Try.prog 62, n ≤ reachBytes) :
    ∃ x : CeD, v = .agg (ceA x) ∧ CeZ w x := by
  obtain ⟨cs, rfl, hs, m, xs, rfl, hx⟩ := dy_struct (n := 5) Try.underlying62 (by kernel_rfl) hv h
  obtain ⟨x0, g0, f0⟩ := hx 0 _ rfl
  obtain ⟨x1, g1, f1⟩ := hx 1 _ rfl
  obtain ⟨x2, g2, f2⟩ := hx 2 _ rfl
  obtain ⟨x3, g3, f3⟩ := hx 3 _ rfl
  obtain ⟨x4, g4, f4⟩ := hx 4 _ rfl
  obtain ⟨e0, e1, e2, e3, e4, rfl⟩ : ∃ e0 e1 e2 e3 e4, cs = #[e0, e1, e2, e3, e4] := by
    refine ⟨cs[0], cs[1], cs[2], cs[3], cs[4], ?_⟩
    apply Array.ext
    · simpa using hs
    · intro i h1 h2
      have : i = 0 ∨ i = 1 ∨ i = 2 ∨ i = 3 ∨ i = 4 := by omega
      rcases this with rfl | rfl | rfl | rfl | rfl <;> rfl
  obtain ⟨sr, rfl, b0'⟩ := i64_of (e := e0) f0
  obtain ⟨qr, nr, cr, lr, ee0, h1, h2, h3⟩ := nums16 f1 (fun n hn => hz n (by simp only [DataW.weights, Try.underlying62]; exact DataW.weights_mem_each (j := 1) rfl g1 n hn))
  obtain ⟨sh, rfl, bs⟩ := i64_of (e := e2) f2
  obtain ⟨mo, rfl, bh⟩ := i64_of (e := e3) f3
  obtain ⟨q, n, c, g, off, os, ee3, hr⟩ := script16 f4 (fun n hn => hz n (by simp only [DataW.weights, Try.underlying62]; exact DataW.weights_mem_each (j := 4) rfl g4 n hn))
  have h9 : [e1] = [Value.slice qr nr cr] := ee0
  obtain rfl : e1 = .slice qr nr cr := by simpa using h9
  have h8 : [e4] = [Value.slice q n c] := ee3
  obtain rfl : e4 = .slice q n c := by simpa using h8
  exact ⟨⟨sr, qr, nr, cr, lr, sh, mo, q, n, c, g, off, os⟩, rfl, ⟨b0', h1, h2, h3, bs, bh, hr⟩⟩
end
end Go.Proofs.Ytoeilckeebojmaa
