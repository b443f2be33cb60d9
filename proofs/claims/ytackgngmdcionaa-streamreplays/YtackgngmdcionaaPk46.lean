/-
  What comes in to the laws on streams: streams that are played.
  What the laws on streams call besides: long; New where resolutions are many.
-/
import Derived.Test.YtackgngmdcionaaPk35
import Derived.Test.YtackgngmdcionaaPk45
import Derived.Test.YtackgngmdcionaaPk31
import Derived.Test.YtackgngmdcionaaPk26
namespace Go.Proofs.Ytackgngmdcionaa
open Go.ChangeShapes Go.WideShapes Go.ChangeAt Go.RowKit
set_option linter.unusedVariables false
set_option maxRecDepth 100000

theorem er_rows {W : World} {q : Option Addr} {g off n cap : Nat} {l : List (Nat → Int)} (hn : l.length = n) (hc : n ≤ cap) (hm : cap ≤ 9223372036854775807) (hp : 0 < n → q = some ⟨g, off, none⟩) (hg : 0 < n → g < W.heap.size)
    (hr : ∀ j c, l[j]? = some c → ∀ i, i < 2 → W.cell? ⟨g, off + j * 2 + i, none⟩ = some (.int .i64 (c i)) ∧ (Lit.int .i64 (c i)).wf = true) : ER E2 W (.slice q n cap) (l.map fun c => (c 0, c 1)) ∧ ∀ p ∈ l.map (fun c => (c 0, c 1)), J64 p.1 ∧ J64 p.2 := by
  have hl : (l.map fun c => (c 0, c 1)).length = n := by rw [List.length_map]; exact hn
  refine ⟨⟨q, cap, g, off, by rw [hl], by rw [hl]; exact hc, hm, fun h => ⟨hp (by rwa [hl] at h), hg (by rwa [hl] at h)⟩, fun j u hu => ?_⟩, fun p hp => ?_⟩
  · have hj := (List.getElem?_eq_some_iff.1 hu).1
    rw [E2.fl_len, hl] at hj
    have hjd : j / 2 < l.length := by rw [hn]; exact Nat.div_lt_of_lt_mul (by rw [Nat.mul_comm]; exact hj)
    have hm2 : j % 2 < 2 := Nat.mod_lt _ (by omega)
    have hx := hr (j / 2) _ (List.getElem?_eq_getElem hjd) (j % 2) hm2
    have hy := E2.fl_at (l.map fun c => (c 0, c 1)) (j / 2) _ (by rw [List.getElem?_map, List.getElem?_eq_getElem hjd]; rfl) (j % 2) (.int .i64 (l[j / 2] (j % 2))) (by
      have : j % 2 = 0 ∨ j % 2 = 1 := by omega
      rcases this with e | e <;> rw [e] <;> rfl)
    rw [show j / 2 * E2.k + j % 2 = j by show j / 2 * 2 + j % 2 = j; omega, hu] at hy
    cases hy
    rw [show off + j = off + j / 2 * 2 + j % 2 by omega]
    exact hx.1
  · obtain ⟨c, hc, rfl⟩ := List.mem_map.1 hp
    obtain ⟨j, hj⟩ := List.mem_iff_getElem?.1 hc
    exact ⟨bounds_i64 (hr j c hj 0 (by omega)).2, bounds_i64 (hr j c hj 1 (by omega)).2⟩
theorem ER.outB {α : Type} {E : En α} {W : World} {v : Value} {l : List α} {X : Nat → Prop} (h : ER E W v l) (hl : 0 < l.length) (hX : ∀ k, X k → W.heap.size ≤ k) : OutB v X := by
  obtain ⟨q, cap, g, off, rfl, h2, h3, h4, h5⟩ := h
  obtain ⟨rfl, hg⟩ := h4 hl
  intro a n c e hx
  cases e
  have := hX _ hx
  exact absurd hg (by show ¬ g < W.heap.size; have h9 : W.heap.size ≤ g := this; omega)
/-- A call. -/
structure ScD where
  kd : Int
  t : Int
  y : Int
  v : Int
  o : Op5
  vp : Value
  ps : List (Int × Int)
structure ScF (x : ScD) : Prop where
  kd : J64 x.kd
  t : J64 x.t
  y : J64 x.y
  v : J64 x.v
  o : Fit5 x.o
  ps : ∀ p ∈ x.ps, J64 p.1 ∧ J64 p.2
structure ScAt (W : World) (g o : Nat) (x : ScD) : Prop where
  c0 : W.cell? ⟨g, o, none⟩ = some (.int .i64 x.kd)
  c1 : W.cell? ⟨g, o + 1, none⟩ = some (.int .i64 x.t)
  c2 : W.cell? ⟨g, o + 2, none⟩ = some (.int .i64 x.y)
  c3 : W.cell? ⟨g, o + 3, none⟩ = some (.int .i64 x.v)
  c4 : W.cell? ⟨g, o + 4, none⟩ = some (.int .i64 x.o.s)
  c5 : W.cell? ⟨g, o + 5, none⟩ = some (.int .i64 x.o.k)
  c6 : W.cell? ⟨g, o + 6, none⟩ = some (.int .i64 x.o.t)
  c7 : W.cell? ⟨g, o + 7, none⟩ = some (.int .i64 x.o.y)
  c8 : W.cell? ⟨g, o + 8, none⟩ = some (.int .i64 x.o.v)
  c9 : W.cell? ⟨g, o + 9, none⟩ = some x.vp
  sp : ER E2 W x.vp x.ps
  fit : ScF x
theorem ScAt.keep {W W' : World} {g o : Nat} {x : ScD} (h : ScAt W g o x) (hg : g < W.heap.size) (hb : Below W.heap.size W W') : ScAt W' g o x :=
  ⟨keep_cell hb h.c0 hg, keep_cell hb h.c1 hg, keep_cell hb h.c2 hg, keep_cell hb h.c3 hg, keep_cell hb h.c4 hg, keep_cell hb h.c5 hg, keep_cell hb h.c6 hg, keep_cell hb h.c7 hg, keep_cell hb h.c8 hg, keep_cell hb h.c9 hg, h.sp.keep hb, h.fit⟩
structure ScRow (W : World) (q : Option Addr) (n cap g off : Nat) (os : List ScD) : Prop where
  len : os.length = n
  fits : n ≤ cap
  max : cap ≤ 9223372036854775807
  few : n ≤ 1759218604441
  ptr : 0 < n → q = some ⟨g, off, none⟩
  lt : 0 < n → g < W.heap.size
  row : ∀ j x, os[j]? = some x → ScAt W g (off + j * 10) x
theorem ScRow.keep {W W' : World} {q : Option Addr} {n cap g off : Nat} {os : List ScD} (h : ScRow W q n cap g off os) (hb : Below W.heap.size W W') : ScRow W' q n cap g off os :=
  ⟨h.len, h.fits, h.max, h.few, h.ptr, fun h0 => Nat.lt_of_lt_of_le (h.lt h0) hb.size, fun j x hx => (h.row j x hx).keep (h.lt (by have := (List.getElem?_eq_some_iff.1 hx).1; have := h.len; omega)) hb⟩
section
variable {H : Type} {enc : TypeId × Value → H} {w : World} {base : Nat} {spare : Nat → Bool} {held : Bool}
theorem nums14 {fuel : Nat} {cs : List Value} {x : DataW H × List MemPlace} (hf : DataW.trod enc Try.prog w base spare held fuel 22 cs = some x) (hw : ∀ n ∈ x.1.weights Try.prog 22, n ≤ reachBytes) :
    ∃ q n cap l, cs = [.slice q n cap] ∧ Is w (.slice q n cap) l ∧ In64 l ∧ l.length ≤ 17592186043904 := by
  obtain ⟨q, g, off, len, cap, l, e, hl, hk, hm, hp, hg, hc⟩ := rows_of (n := 1) (D := 8) (fun _ => .i64) Try.underlying22 (by kernel_rfl) (by omega) (kinds_of (by kernel_rfl)) hf
  subst e
  have z := len_ofT Try.underlying22 hf hw
  rw [show Try.prog.bytesOf 3 = 8 by kernel_rfl] at z
  unfold reachBytes at z
  obtain ⟨h1, h2⟩ := is_rows hl hk hm hp hg hc
  exact ⟨q, len, cap, _, rfl, h1, h2, by rw [List.length_map]; omega⟩
theorem places14 {fuel : Nat} {cs : List Value} {x : DataW H × List MemPlace} (hf : DataW.trod enc Try.prog w base spare held fuel 38 cs = some x) :
    ∃ q n cap l, cs = [.slice q n cap] ∧ ER E2 w (.slice q n cap) l ∧ ∀ p ∈ l, J64 p.1 ∧ J64 p.2 := by
  obtain ⟨q, g, off, len, cap, l, e, hl, hk, hm, hp, hg, hc⟩ := rows_of (n := 2) (D := 8) (fun _ => .i64) Try.underlying38 (by kernel_rfl) (by omega) (kinds_of (by kernel_rfl)) hf
  obtain ⟨h1, h2⟩ := er_rows hl hk hm hp hg hc
  exact ⟨q, len, cap, _, e, h1, h2⟩
theorem op14 {fuel : Nat} {e0 e1 e2 e3 e4 : Value} {x : DataW H × List MemPlace} (hf : DataW.trod enc Try.prog w base spare held fuel 37 [e0, e1, e2, e3, e4] = some x) :
    ∃ o : Op5, e0 = .int .i64 o.s ∧ e1 = .int .i64 o.k ∧ e2 = .int .i64 o.t ∧ e3 = .int .i64 o.y ∧ e4 = .int .i64 o.v ∧ Fit5 o := by
  obtain ⟨k0, f0, w0⟩ := flat_cell 8 _ 37 _ _ 0 .i64 hf (by kernel_rfl)
  obtain ⟨k1, f1, w1⟩ := flat_cell 8 _ 37 _ _ 1 .i64 hf (by kernel_rfl)
  obtain ⟨k2, f2, w2⟩ := flat_cell 8 _ 37 _ _ 2 .i64 hf (by kernel_rfl)
  obtain ⟨k3, f3, w3⟩ := flat_cell 8 _ 37 _ _ 3 .i64 hf (by kernel_rfl)
  obtain ⟨k4, f4, w4⟩ := flat_cell 8 _ 37 _ _ 4 .i64 hf (by kernel_rfl)
  exact ⟨⟨k0, k1, k2, k3, k4⟩, by simpa using f0, by simpa using f1, by simpa using f2, by simpa using f3, by simpa using f4, ⟨bounds_i64 w0, bounds_i64 w1, bounds_i64 w2, bounds_i64 w3, bounds_i64 w4⟩⟩
set_option maxHeartbeats 1000000 in
theorem ops14 {fuel : Nat} {cs : List Value} {y : DataW H × List MemPlace} (hf : DataW.trod enc Try.prog w base spare held fuel 23 cs = some y) (hw : ∀ n ∈ y.1.weights Try.prog 23, n ≤ reachBytes) :
    ∃ (q : Option Addr) (n cap g off : Nat) (os : List ScD), cs = [.slice q n cap] ∧ ScRow w q n cap g off os := by
  rcases Deep.open_slice Try.underlying23 hf with ⟨hcs, _⟩ | ⟨a', len, cap, m, n', D', Pl, hcs, hb, hl, hm, hmm, hx, hel⟩
  · exact ⟨none, 0, 0, 0, 0, [], hcs, rfl, by omega, by omega, by omega, fun h => absurd h (by omega), fun h => absurd h (by omega), fun j c hc => by simp at hc⟩
  · have hle : len ≤ m := by rw [hmm]; split <;> omega
    have z : len * Try.prog.bytesOf 40 ≤ reachBytes := by
      have hf2 := hf
      rw [hcs] at hf2
      exact len_ofT Try.underlying23 hf2 hw
    rw [show Try.prog.bytesOf 40 = 96 by kernel_rfl] at z
    unfold reachBytes at z
    have key : ∀ j, j < len → ∃ x : ScD, w.cell? ((a'.add (j * 10)).add 0) = some (.int .i64 x.kd) ∧ w.cell? ((a'.add (j * 10)).add 1) = some (.int .i64 x.t) ∧ w.cell? ((a'.add (j * 10)).add 2) = some (.int .i64 x.y) ∧ w.cell? ((a'.add (j * 10)).add 3) = some (.int .i64 x.v) ∧ w.cell? ((a'.add (j * 10)).add 4) = some (.int .i64 x.o.s) ∧ w.cell? ((a'.add (j * 10)).add 5) = some (.int .i64 x.o.k) ∧ w.cell? ((a'.add (j * 10)).add 6) = some (.int .i64 x.o.t) ∧ w.cell? ((a'.add (j * 10)).add 7) = some (.int .i64 x.o.y) ∧ w.cell? ((a'.add (j * 10)).add 8) = some (.int .i64 x.o.v) ∧ w.cell? ((a'.add (j * 10)).add 9) = some x.vp ∧ ER E2 w x.vp x.ps ∧ ScF x := by
      intro j hj
      obtain ⟨cs', h1, h2⟩ := hel j (by omega)
      rw [show Try.prog.cellsOf 40 = 10 by kernel_rfl] at h1
      obtain ⟨_, h3, h4⟩ := World.cells?_some h1
      obtain ⟨xs, m', _, hxe, _, hxl, hxx⟩ := DataW.trod_struct Try.underlying40 h2
      have hf0 := hxx 0 _ rfl
      have hf1 := hxx 1 _ rfl
      have hf2 := hxx 2 _ rfl
      have hf3 := hxx 3 _ rfl
      have hf4 := hxx 4 _ rfl
      have hf5 := hxx 5 _ rfl
      have hsz : xs.length = 6 := hxl
      rw [List.getElem?_eq_getElem (by omega)] at hf0 hf1 hf2 hf3 hf4 hf5
      obtain ⟨e0, e1, e2, e3, e4, e5, e6, e7, e8, e9, rfl⟩ : ∃ e0 e1 e2 e3 e4 e5 e6 e7 e8 e9, cs' = [e0, e1, e2, e3, e4, e5, e6, e7, e8, e9] := by
        match cs', h3 with
        | [e0, e1, e2, e3, e4, e5, e6, e7, e8, e9], _ => exact ⟨e0, e1, e2, e3, e4, e5, e6, e7, e8, e9, rfl⟩
      obtain ⟨k0, rfl, b0⟩ := i64_of (e := e0) hf0
      obtain ⟨k1, rfl, b1⟩ := i64_of (e := e1) hf1
      obtain ⟨k2, rfl, b2⟩ := i64_of (e := e2) hf2
      obtain ⟨k3, rfl, b3⟩ := i64_of (e := e3) hf3
      obtain ⟨o, rfl, rfl, rfl, rfl, rfl, bo⟩ := op14 (e0 := e4) (e1 := e5) (e2 := e6) (e3 := e7) (e4 := e8) hf4
      obtain ⟨q1, n1, c1, l1, ee1, hs1, hb1⟩ := places14 hf5
      have h9 : [e9] = [Value.slice q1 n1 c1] := ee1
      obtain rfl : e9 = .slice q1 n1 c1 := by simpa using h9
      exact ⟨⟨k0, k1, k2, k3, o, .slice q1 n1 c1, l1⟩, h4 0 (by omega), h4 1 (by omega), h4 2 (by omega), h4 3 (by omega), h4 4 (by omega), h4 5 (by omega), h4 6 (by omega), h4 7 (by omega), h4 8 (by omega), h4 9 (by omega), hs1, ⟨b0, b1, b2, b3, bo, hb1⟩⟩
    haveI : Inhabited ScD := ⟨⟨0, 0, 0, 0, zOp, .nilIface, []⟩⟩
    obtain ⟨L, hL⟩ := Deep.choose_lt key
    have hspot : 0 < len → a'.spot = none := fun h0 => by
      have h1 := (hL 0 h0).1
      have := spot_of_cell h1
      rw [Nat.zero_mul] at this
      simpa [Addr.add] using this
    refine ⟨some a', len, cap, a'.block, a'.off, (List.range len).map L, hcs, ⟨by simp, hl, hm, by omega, fun h0 => ?_, fun h0 => ?_, fun j x hx => ?_⟩⟩
    · have hs := hspot h0
      obtain ⟨b, o, s⟩ := a'; cases hs; rfl
    · have := World.block_lt_of_cell? w _ (hL 0 h0).1
      simpa [Addr.add] using this
    · have hj : j < len := by have := (List.getElem?_eq_some_iff.1 hx).1; simpa using this
      have hxj : x = L j := by simp [hj] at hx; exact hx.symm
      subst hxj
      have hs := hspot (by omega)
      obtain ⟨h0, h1, h2, h3, h4, h5, h6, h7, h8, h9, s0, f0⟩ := hL j hj
      rw [add_plain _ hs, add_plain _ rfl] at h0 h1 h2 h3 h4 h5 h6 h7 h8 h9
      exact ⟨h0, h1, h2, h3, h4, h5, h6, h7, h8, h9, s0, f0⟩
/-- A stream that is played. -/
structure CsD where
  qr : Option Addr
  nr : Nat
  cr : Nat
  res : List Int
  sh : Int
  hd : Int
  q : Option Addr
  n : Nat
  cap : Nat
  g : Nat
  off : Nat
  os : List ScD
def csA (x : CsD) : Array Value := #[.slice x.qr x.nr x.cr, .int .i64 x.sh, .int .i64 x.hd, .slice x.q x.n x.cap]
structure CsZ (W : World) (x : CsD) : Prop where
  re : Is W (.slice x.qr x.nr x.cr) x.res
  rb : In64 x.res
  rl : x.res.length ≤ 17592186043904
  sh : J64 x.sh
  hd : J64 x.hd
  row : ScRow W x.q x.n x.cap x.g x.off x.os
theorem CsZ.keep {W W' : World} {x : CsD} (h : CsZ W x) (hb : Below W.heap.size W W') : CsZ W' x := ⟨h.re.keep hb, h.rb, h.rl, h.sh, h.hd, h.row.keep hb⟩
set_option maxHeartbeats 1000000 in
theorem open_case14 {r : Reach} {b0 : Nat} {v : Value} {d : DataW H} {p : List MemPlace} (hv : Value.okWide Try.prog w r b0 25 v) (h : DataW.Trod enc Try.prog w base spare held 25 v d p) (hz : ∀ n ∈ d.weights Try.prog 25, n ≤ reachBytes) :
    ∃ x : CsD, v = .agg (csA x) ∧ CsZ w x := by
  obtain ⟨cs, rfl, hs, m, xs, rfl, hx⟩ := dy_struct (n := 4) Try.underlying25 (by kernel_rfl) hv h
  obtain ⟨x0, g0, f0⟩ := hx 0 _ rfl
  obtain ⟨x1, g1, f1⟩ := hx 1 _ rfl
  obtain ⟨x2, g2, f2⟩ := hx 2 _ rfl
  obtain ⟨x3, g3, f3⟩ := hx 3 _ rfl
  obtain ⟨e0, e1, e2, e3, rfl⟩ : ∃ e0 e1 e2 e3, cs = #[e0, e1, e2, e3] := by
    refine ⟨cs[0], cs[1], cs[2], cs[3], ?_⟩
    apply Array.ext
    · simpa using hs
    · intro i h1 h2
      have : i = 0 ∨ i = 1 ∨ i = 2 ∨ i = 3 := by omega
      rcases this with rfl | rfl | rfl | rfl <;> rfl
  obtain ⟨qr, nr, cr, lr, ee0, h1, h2, h3⟩ := nums14 f0 (fun n hn => hz n (by simp only [DataW.weights, Try.underlying25]; exact DataW.weights_mem_each (j := 0) rfl g0 n hn))
  obtain ⟨sh, rfl, bs⟩ := i64_of (e := e1) f1
  obtain ⟨hd, rfl, bh⟩ := i64_of (e := e2) f2
  obtain ⟨q, n, c, g, off, os, ee3, hr⟩ := ops14 f3 (fun n hn => hz n (by simp only [DataW.weights, Try.underlying25]; exact DataW.weights_mem_each (j := 3) rfl g3 n hn))
  have h9 : [e0] = [Value.slice qr nr cr] := ee0
  obtain rfl : e0 = .slice qr nr cr := by simpa using h9
  have h8 : [e3] = [Value.slice q n c] := ee3
  obtain rfl : e3 = .slice q n c := by simpa using h8
  exact ⟨⟨qr, nr, cr, lr, sh, hd, q, n, c, g, off, os⟩, rfl, ⟨h1, h2, h3, bs, bh, hr⟩⟩
theorem open_places14 {r : Reach} {b0 : Nat} {v : Value} {d : DataW H} {p : List MemPlace} (hv : Value.okWide Try.prog w r b0 38 v) (h : DataW.Trod enc Try.prog w base spare held 38 v d p) : ∃ l, ER E2 w v l ∧ ∀ p ∈ l, J64 p.1 ∧ J64 p.2 := by
  obtain ⟨a, len, cap, rfl⟩ := okWide_slice Try.underlying38 hv
  obtain ⟨fuel, hf⟩ := h
  obtain ⟨q, n, c, l, e, h1, h2⟩ := places14 hf
  have e1 : (Value.slice a len cap) = .slice q n c := by simpa [Value.cells] using e
  cases e1
  exact ⟨l, h1, h2⟩
end
end Go.Proofs.Ytackgngmdcionaa
namespace Go.Proofs.Ytackgngmdcionaa
open Go.RowKit
set_option linter.unusedVariables false
set_option maxRecDepth 100000

set_option maxHeartbeats 2000000 in
theorem slong_any (x : CsD) (w : World) (h : CsZ w x) : Calls Try.prog 10 #[.agg (csA x)] w fun e w' => (∃ r : Bool, e = .returned (.bool r)) ∧ Below w.heap.size w w' := by
  obtain ⟨qr, nr, cr, res, sh, hd, q, n, cap, g, off, os⟩ := x
  obtain ⟨A, hE, hB, hw⟩ := blk1 w (csA ⟨qr, nr, cr, res, sh, hd, q, n, cap, g, off, os⟩) 25
  have hrow := h.row.keep hw
  have c0 : A.cell? ⟨w.heap.size, 0, none⟩ = some (.slice qr nr cr) := hB.at rfl
  have c3 : A.cell? ⟨w.heap.size, 3, none⟩ = some (.slice q n cap) := hB.at rfl
  clear h
  dsimp only at hrow
  unfold csA at hE
  unfold csA
  dsimp only at hE ⊢
  obtain ⟨hlen, hfit, hmax, hfew, hp, hlt, hat⟩ := hrow
  go_enter Try.func10, Try.ntmps10
  go_wp2_with fail
  go_loopw [3, 12] (fun s x wr => ∃ (i : Nat) (y : Int), i ≤ n ∧ x = .int .i64 (i : Int) ∧ s = .int .i64 y ∧ Below A.heap.size A wr) (fun _ x _ => n - (intOf x).toNat)
  case atStart => exact ⟨0, _, Nat.zero_le _, rfl, rfl, Below.refl _ _⟩
  case round =>
    obtain ⟨i, y, hi, rfl, rfl, hbw⟩ := hrel
    by_cases hin : i = n
    · subst hin
      clear hat
      go_wp2_with fail
      go_ret
      exact ⟨⟨_, rfl⟩, ab_trans hw hbw⟩
    · obtain ⟨x, hx⟩ : ∃ x, os[i]? = some x := ⟨os[i], List.getElem?_eq_getElem (by omega)⟩
      obtain rfl := hp (by omega)
      have ox := (hat i x hx).keep (hlt (by omega)) hbw
      obtain ⟨d0, d1, d2, d3, d4, d5, d6, d7, d8, d9, sl, -⟩ := ox
      obtain ⟨qx, cx, ex⟩ := sl.form
      rw [ex] at d9
      have hii : (i : Int) < (n : Int) := by omega
      obtain ⟨A2, hE2, hB2, hw2⟩ := blk1 wr #[.int .i64 x.kd, .int .i64 x.t, .int .i64 x.y, .int .i64 x.v, .int .i64 x.o.s, .int .i64 x.o.k, .int .i64 x.o.t, .int .i64 x.o.y, .int .i64 x.o.v, .slice qx x.ps.length cx] 40
      have y9 : A2.cell? ⟨wr.heap.size, 9, none⟩ = some (.slice qx x.ps.length cx) := hB2.at rfl
      clear hat hx sl
      go_wp2_with fail
      exact ⟨⟨i + 1, _, by omega, by go_num, rfl, ab_trans hbw hw2⟩, by simp only [intOf]; omega⟩
set_option maxHeartbeats 2000000 in
theorem snew_noL (v : Value) (l : List Int) (sh hd : Int) (w : World) (hv : Is w v l) (hl : l.length ≤ 17592186043904) (hg : goodF l sh hd = false) : Calls Try.prog 11 #[v, .int .i64 sh, .int .i64 hd] w fun e w' => e = .returned (.tuple #[.pointer none, Err 2]) ∧ Below w.heap.size w w' := by
  go_enter Try.func11, Try.ntmps11
  go_upto_region 1 with fail
  refine wp_region_lit ?_
  refine valS rfl v rfl ?_
  refine app_iL w rfl rfl (l := []) (m := l) rfl (sown0 _ _) rfl hv rfl (by omega) (Below.refl _ _) ?_
  intro v' W1 hown hnil b1 hg1
  have hO : Io W1 w.heap.size v' l := io_of hown
  obtain ⟨q, cap, rfl⟩ := hO.is.form
  have HI : Hid (Is W1 (.slice q l.length cap) l) := hO.is
  clear hown hnil hg1 hO
  generalize hn : l.length = n at *
  obtain ⟨A, hE, hB, hw⟩ := blk1 W1 #[.slice q n cap, .int .i64 sh, .int .i64 hd] 82
  have c0 := hB.at (i := 0) rfl
  have c1 := hB.at (i := 1) rfl
  have c2 := hB.at (i := 2) rfl
  have hIA := HI.out.keep hw
  go_wp2_with (go_at_call 32; refine (sgood_any _ l sh hd _ hIA).mono ?_; rintro e W2 ⟨rfl, b2⟩; rw [hg])
  go_ret2
  exact ⟨rfl, ab_trans (ab_trans b1 hw) b2⟩
end Go.Proofs.Ytackgngmdcionaa
