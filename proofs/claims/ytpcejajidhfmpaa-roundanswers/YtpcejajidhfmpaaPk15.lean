/-
  What else the laws on rounds share.
  What comes in to the laws on rounds: answers, rounds that are played, acts.
-/
import Derived.Test.YtpcejajidhfmpaaPk14
import Derived.Test.YtpcejajidhfmpaaPk10
import Derived.Test.YtpcejajidhfmpaaPk09
namespace Go.Proofs.Ytpcejajidhfmpaa
open Go.RowKit
set_option linter.unusedVariables false
set_option maxRecDepth 100000

theorem Ig.up {G G' : Nat → Prop} {W : World} {B : Nat} {v : Value} {l : List Int} (h : Ig G W B v l) (hG : ∀ k, G' k → G k ∨ W.heap.size ≤ k) : Ig G' W B v l :=
  ⟨h.1, fun k hk hg => by rcases hG k hg with e | e; exact h.2 k hk e; have := (h.1.lt k hk).2; omega⟩
theorem Mp.up {G G' : Nat → Prop} {W : World} {B m : Nat} {pr : List (Option (Bt × List Int))} (h : Mp G W B m pr) (hG : ∀ k, G' k → G k ∨ W.heap.size ≤ k) : Mp G' W B m pr := by
  obtain ⟨D, h1, h2, h3⟩ := h
  refine ⟨D, h1, h2, fun k x hk => ?_⟩
  have := h3 k x hk
  cases x with
  | none => exact this
  | some x =>
    obtain ⟨a, l⟩ := x
    obtain ⟨h4, q, c, h5, h6⟩ := this
    exact ⟨h4, q, c, h5, h6.up hG⟩
theorem Rn.up {G G' : Nat → Prop} {W : World} {B b mp ma : Nat} {R : Rd} (h : Rn G W B b mp ma R) (hG : ∀ k, G' k → G k ∨ W.heap.size ≤ k) : Rn G' W B b mp ma R := by
  obtain ⟨vo, vn, vv, hB, i1, i2, i3⟩ := h.mem
  exact ⟨h.geb, h.gep, h.gea, h.ne, ⟨vo, vn, vv, hB, i1.up hG, i2.up hG, i3.up hG⟩, h.pm.up hG, h.am, h.ok⟩
theorem frm_onl {v : Value} {V W : World} (h : Onl v V W) : Frm (fun k => v.ownBlock = some k) V W := by
  cases hv : v.ownBlock with
  | none => rw [h.2 hv]; exact Frm.refl _ _
  | some g => exact frm_chg (h.1 g hv) rfl
theorem Drn.lts {W0 W : World} {B d g1 g2 g3 : Nat} {R : Rd} (h : Drn W0 W B d g1 g2 g3 R) : d < W.heap.size ∧ g1 < W.heap.size ∧ g2 < W.heap.size ∧ g3 < W.heap.size := by
  obtain ⟨vo, vn, vv, hB, -⟩ := h.mem
  obtain ⟨os, ho, -⟩ := h.reg
  exact ⟨hB.lt, h.has.lt, ho.lt, h.did.lt⟩
/-- The blocks of both rounds. -/
def bkx (b mp ma d g1 g2 g3 : Nat) (k : Nat) : Prop := bks b mp ma k ∨ bkr d g1 g2 g3 k
end Go.Proofs.Ytpcejajidhfmpaa
namespace Go.Proofs.Ytpcejajidhfmpaa
open Go.ChangeShapes Go.WideShapes Go.ChangeAt Go.RowKit
set_option linter.unusedVariables false
set_option maxRecDepth 100000

/-- An answer. -/
structure OpD where
  kd : Int
  kp : Int
  ow : Bool
  b : Bt
  g : Bt
  p : Bt
  a : Bt
  v : Value
  l : List Int
structure OpAt (W : World) (g o : Nat) (x : OpD) : Prop where
  c0 : W.cell? ⟨g, o, none⟩ = some (.int .i64 x.kd)
  c1 : W.cell? ⟨g, o + 1, none⟩ = some (.int .i64 x.kp)
  c2 : W.cell? ⟨g, o + 2, none⟩ = some (.bool x.ow)
  c3 : W.cell? ⟨g, o + 3, none⟩ = some (.int .i64 x.b.n)
  c4 : W.cell? ⟨g, o + 4, none⟩ = some (.int .i64 x.b.nd)
  c5 : W.cell? ⟨g, o + 5, none⟩ = some (.int .i64 x.b.lf)
  c6 : W.cell? ⟨g, o + 6, none⟩ = some (.int .i64 x.g.n)
  c7 : W.cell? ⟨g, o + 7, none⟩ = some (.int .i64 x.g.nd)
  c8 : W.cell? ⟨g, o + 8, none⟩ = some (.int .i64 x.g.lf)
  c9 : W.cell? ⟨g, o + 9, none⟩ = some (.int .i64 x.p.n)
  c10 : W.cell? ⟨g, o + 10, none⟩ = some (.int .i64 x.p.nd)
  c11 : W.cell? ⟨g, o + 11, none⟩ = some (.int .i64 x.p.lf)
  c12 : W.cell? ⟨g, o + 12, none⟩ = some (.int .i64 x.a.n)
  c13 : W.cell? ⟨g, o + 13, none⟩ = some (.int .i64 x.a.nd)
  c14 : W.cell? ⟨g, o + 14, none⟩ = some (.int .i64 x.a.lf)
  c15 : W.cell? ⟨g, o + 15, none⟩ = some x.v
  sv : Is W x.v x.l
theorem OpAt.keep {W W' : World} {g o : Nat} {x : OpD} (h : OpAt W g o x) (hg : g < W.heap.size) (hb : Below W.heap.size W W') : OpAt W' g o x :=
  ⟨keep_cell hb h.c0 hg, keep_cell hb h.c1 hg, keep_cell hb h.c2 hg, keep_cell hb h.c3 hg, keep_cell hb h.c4 hg, keep_cell hb h.c5 hg, keep_cell hb h.c6 hg, keep_cell hb h.c7 hg, keep_cell hb h.c8 hg, keep_cell hb h.c9 hg, keep_cell hb h.c10 hg, keep_cell hb h.c11 hg, keep_cell hb h.c12 hg, keep_cell hb h.c13 hg, keep_cell hb h.c14 hg, keep_cell hb h.c15 hg, h.sv.keep hb⟩
structure OpRow (W : World) (q : Option Addr) (n cap g off : Nat) (os : List OpD) : Prop where
  len : os.length = n
  fits : n ≤ cap
  max : cap ≤ 9223372036854775807
  ptr : 0 < n → q = some ⟨g, off, none⟩
  lt : 0 < n → g < W.heap.size
  row : ∀ j x, os[j]? = some x → OpAt W g (off + j * 16) x
theorem OpRow.keep {W W' : World} {q : Option Addr} {n cap g off : Nat} {os : List OpD} (h : OpRow W q n cap g off os) (hb : Below W.heap.size W W') : OpRow W' q n cap g off os :=
  ⟨h.len, h.fits, h.max, h.ptr, fun h0 => Nat.lt_of_lt_of_le (h.lt h0) hb.size, fun j x hx => (h.row j x hx).keep (h.lt (by have := (List.getElem?_eq_some_iff.1 hx).1; have := h.len; omega)) hb⟩
/-- An act. -/
structure AcD where
  kd : Int
  wh : Int
  nm : Int
  k : Int
  vo : Value
  o : List Int
  vn : Value
  n : List Int
structure AcAt (W : World) (g o : Nat) (x : AcD) : Prop where
  c0 : W.cell? ⟨g, o, none⟩ = some (.int .i64 x.kd)
  c1 : W.cell? ⟨g, o + 1, none⟩ = some (.int .i64 x.wh)
  c2 : W.cell? ⟨g, o + 2, none⟩ = some (.int .i64 x.nm)
  c3 : W.cell? ⟨g, o + 3, none⟩ = some (.int .i64 x.k)
  c4 : W.cell? ⟨g, o + 4, none⟩ = some x.vo
  c5 : W.cell? ⟨g, o + 5, none⟩ = some x.vn
  svo : Is W x.vo x.o
  svn : Is W x.vn x.n
theorem AcAt.keep {W W' : World} {g o : Nat} {x : AcD} (h : AcAt W g o x) (hg : g < W.heap.size) (hb : Below W.heap.size W W') : AcAt W' g o x :=
  ⟨keep_cell hb h.c0 hg, keep_cell hb h.c1 hg, keep_cell hb h.c2 hg, keep_cell hb h.c3 hg, keep_cell hb h.c4 hg, keep_cell hb h.c5 hg, h.svo.keep hb, h.svn.keep hb⟩
structure AcRow (W : World) (q : Option Addr) (n cap g off : Nat) (os : List AcD) : Prop where
  len : os.length = n
  fits : n ≤ cap
  max : cap ≤ 9223372036854775807
  ptr : 0 < n → q = some ⟨g, off, none⟩
  lt : 0 < n → g < W.heap.size
  row : ∀ j x, os[j]? = some x → AcAt W g (off + j * 6) x
theorem AcRow.keep {W W' : World} {q : Option Addr} {n cap g off : Nat} {os : List AcD} (h : AcRow W q n cap g off os) (hb : Below W.heap.size W W') : AcRow W' q n cap g off os :=
  ⟨h.len, h.fits, h.max, h.ptr, fun h0 => Nat.lt_of_lt_of_le (h.lt h0) hb.size, fun j x hx => (h.row j x hx).keep (h.lt (by have := (List.getElem?_eq_some_iff.1 hx).1; have := h.len; omega)) hb⟩
section
variable {H : Type} {enc : TypeId × Value → H} {w : World} {base : Nat} {spare : Nat → Bool} {held : Bool}
theorem nums11 {fuel : Nat} {cs : List Value} {x : DataW H × List MemPlace} (hf : DataW.trod enc Try.prog w base spare held fuel 24 cs = some x) :
    ∃ q n cap l, cs = [.slice q n cap] ∧ Is w (.slice q n cap) l := by
  obtain ⟨q, g, off, len, cap, l, e, hl, hk, hm, hp, hg, hc⟩ := rows_of (n := 1) (D := 8) (fun _ => .i64) Try.underlying24 (by kernel_rfl) (by omega) (kinds_of (by kernel_rfl)) hf
  exact ⟨q, len, cap, _, e, (is_rows hl hk hm hp hg hc).1⟩
theorem ballot11 {fuel : Nat} {e0 e1 e2 : Value} {x : DataW H × List MemPlace} (hf : DataW.trod enc Try.prog w base spare held fuel 23 [e0, e1, e2] = some x) :
    ∃ b : Bt, e0 = .int .i64 b.n ∧ e1 = .int .i64 b.nd ∧ e2 = .int .i64 b.lf := by
  obtain ⟨k0, f0, -⟩ := flat_cell 8 _ 23 _ _ 0 .i64 hf (by kernel_rfl)
  obtain ⟨k1, f1, -⟩ := flat_cell 8 _ 23 _ _ 1 .i64 hf (by kernel_rfl)
  obtain ⟨k2, f2, -⟩ := flat_cell 8 _ 23 _ _ 2 .i64 hf (by kernel_rfl)
  exact ⟨⟨k0, k1, k2⟩, by simpa using f0, by simpa using f1, by simpa using f2⟩
theorem register11 {fuel : Nat} {e0 e1 e2 e3 e4 e5 e6 : Value} {x : DataW H × List MemPlace} (hf : DataW.trod enc Try.prog w base spare held fuel 61 [e0, e1, e2, e3, e4, e5, e6] = some x) :
    ∃ (p a : Bt) (l : List Int), e0 = .int .i64 p.n ∧ e1 = .int .i64 p.nd ∧ e2 = .int .i64 p.lf ∧ e3 = .int .i64 a.n ∧ e4 = .int .i64 a.nd ∧ e5 = .int .i64 a.lf ∧ Is w e6 l := by
  obtain ⟨xs, m', _, hxe, _, hxl, hxx⟩ := DataW.trod_struct Try.underlying61 hf
  have hf0 := hxx 0 _ rfl
  have hf1 := hxx 1 _ rfl
  have hf2 := hxx 2 _ rfl
  have hsz : xs.length = 3 := hxl
  rw [List.getElem?_eq_getElem (by omega)] at hf0 hf1 hf2
  obtain ⟨p, h0, h1, h2⟩ := ballot11 (e0 := e0) (e1 := e1) (e2 := e2) hf0
  obtain ⟨a, h3, h4, h5⟩ := ballot11 (e0 := e3) (e1 := e4) (e2 := e5) hf1
  obtain ⟨q, n, c, l, ee, hs⟩ := nums11 hf2
  have h9 : [e6] = [Value.slice q n c] := ee
  obtain rfl : e6 = .slice q n c := by simpa using h9
  exact ⟨p, a, l, h0, h1, h2, h3, h4, h5, hs⟩
set_option maxHeartbeats 1000000 in
theorem ops11 {fuel : Nat} {cs : List Value} {y : DataW H × List MemPlace} (hf : DataW.trod enc Try.prog w base spare held fuel 27 cs = some y) :
    ∃ (q : Option Addr) (n cap g off : Nat) (os : List OpD), cs = [.slice q n cap] ∧ OpRow w q n cap g off os := by
  rcases Deep.open_slice Try.underlying27 hf with ⟨hcs, _⟩ | ⟨a', len, cap, m, n', D', Pl, hcs, hb, hl, hm, hmm, hx, hel⟩
  · exact ⟨none, 0, 0, 0, 0, [], hcs, rfl, by omega, by omega, fun h => absurd h (by omega), fun h => absurd h (by omega), fun j c hc => by simp at hc⟩
  · have hle : len ≤ m := by rw [hmm]; split <;> omega
    have key : ∀ j, j < len → ∃ x : OpD, w.cell? ((a'.add (j * 16)).add 0) = some (.int .i64 x.kd) ∧ w.cell? ((a'.add (j * 16)).add 1) = some (.int .i64 x.kp) ∧ w.cell? ((a'.add (j * 16)).add 2) = some (.bool x.ow) ∧ w.cell? ((a'.add (j * 16)).add 3) = some (.int .i64 x.b.n) ∧ w.cell? ((a'.add (j * 16)).add 4) = some (.int .i64 x.b.nd) ∧ w.cell? ((a'.add (j * 16)).add 5) = some (.int .i64 x.b.lf) ∧ w.cell? ((a'.add (j * 16)).add 6) = some (.int .i64 x.g.n) ∧ w.cell? ((a'.add (j * 16)).add 7) = some (.int .i64 x.g.nd) ∧ w.cell? ((a'.add (j * 16)).add 8) = some (.int .i64 x.g.lf) ∧ w.cell? ((a'.add (j * 16)).add 9) = some (.int .i64 x.p.n) ∧ w.cell? ((a'.add (j * 16)).add 10) = some (.int .i64 x.p.nd) ∧ w.cell? ((a'.add (j * 16)).add 11) = some (.int .i64 x.p.lf) ∧ w.cell? ((a'.add (j * 16)).add 12) = some (.int .i64 x.a.n) ∧ w.cell? ((a'.add (j * 16)).add 13) = some (.int .i64 x.a.nd) ∧ w.cell? ((a'.add (j * 16)).add 14) = some (.int .i64 x.a.lf) ∧ w.cell? ((a'.add (j * 16)).add 15) = some x.v ∧ Is w x.v x.l := by
      intro j hj
      obtain ⟨cs', h1, h2⟩ := hel j (by omega)
      rw [show Try.prog.cellsOf 68 = 16 by kernel_rfl] at h1
      obtain ⟨_, h3, h4⟩ := World.cells?_some h1
      obtain ⟨xs, m', _, hxe, _, hxl, hxx⟩ := DataW.trod_struct Try.underlying68 h2
      have hf0 := hxx 0 _ rfl
      have hf1 := hxx 1 _ rfl
      have hf2 := hxx 2 _ rfl
      have hf3 := hxx 3 _ rfl
      have hf4 := hxx 4 _ rfl
      have hf5 := hxx 5 _ rfl
      have hsz : xs.length = 6 := hxl
      rw [List.getElem?_eq_getElem (by omega)] at hf0 hf1 hf2 hf3 hf4 hf5
      obtain ⟨e0, e1, e2, e3, e4, e5, e6, e7, e8, e9, e10, e11, e12, e13, e14, e15, rfl⟩ : ∃ e0 e1 e2 e3 e4 e5 e6 e7 e8 e9 e10 e11 e12 e13 e14 e15, cs' = [e0, e1, e2, e3, e4, e5, e6, e7, e8, e9, e10, e11, e12, e13, e14, e15] := by
        match cs', h3 with
        | [e0, e1, e2, e3, e4, e5, e6, e7, e8, e9, e10, e11, e12, e13, e14, e15], _ => exact ⟨e0, e1, e2, e3, e4, e5, e6, e7, e8, e9, e10, e11, e12, e13, e14, e15, rfl⟩
      obtain ⟨k0, rfl, -⟩ := i64_of (e := e0) hf0
      obtain ⟨k1, rfl, -⟩ := i64_of (e := e1) hf1
      obtain ⟨k2, rfl⟩ := bool_of (e := e2) hf2
      obtain ⟨b, rfl, rfl, rfl⟩ := ballot11 (e0 := e3) (e1 := e4) (e2 := e5) hf3
      obtain ⟨g, rfl, rfl, rfl⟩ := ballot11 (e0 := e6) (e1 := e7) (e2 := e8) hf4
      obtain ⟨p, a, l, rfl, rfl, rfl, rfl, rfl, rfl, hs⟩ := register11 (e0 := e9) (e1 := e10) (e2 := e11) (e3 := e12) (e4 := e13) (e5 := e14) (e6 := e15) hf5
      exact ⟨⟨k0, k1, k2, b, g, p, a, e15, l⟩, h4 0 (by omega), h4 1 (by omega), h4 2 (by omega), h4 3 (by omega), h4 4 (by omega), h4 5 (by omega), h4 6 (by omega), h4 7 (by omega), h4 8 (by omega), h4 9 (by omega), h4 10 (by omega), h4 11 (by omega), h4 12 (by omega), h4 13 (by omega), h4 14 (by omega), h4 15 (by omega), hs⟩
    haveI : Inhabited OpD := ⟨⟨0, 0, false, zB, zB, zB, zB, .nilIface, []⟩⟩
    obtain ⟨L, hL⟩ := Deep.choose_lt key
    have hspot : 0 < len → a'.spot = none := fun h0 => by
      have h1 := (hL 0 h0).1
      have := spot_of_cell h1
      rw [Nat.zero_mul] at this
      simpa [Addr.add] using this
    refine ⟨some a', len, cap, a'.block, a'.off, (List.range len).map L, hcs, ⟨by simp, hl, hm, fun h0 => ?_, fun h0 => ?_, fun j x hx => ?_⟩⟩
    · have hs := hspot h0
      obtain ⟨b, o, s⟩ := a'; cases hs; rfl
    · have := World.block_lt_of_cell? w _ (hL 0 h0).1
      simpa [Addr.add] using this
    · have hj : j < len := by have := (List.getElem?_eq_some_iff.1 hx).1; simpa using this
      have hxj : x = L j := by simp [hj] at hx; exact hx.symm
      subst hxj
      have hs := hspot (by omega)
      obtain ⟨h0_, h1_, h2_, h3_, h4_, h5_, h6_, h7_, h8_, h9_, h10_, h11_, h12_, h13_, h14_, h15_, s0_⟩ := hL j hj
      rw [add_plain _ hs, add_plain _ rfl] at h0_ h1_ h2_ h3_ h4_ h5_ h6_ h7_ h8_ h9_ h10_ h11_ h12_ h13_ h14_ h15_
      exact ⟨h0_, h1_, h2_, h3_, h4_, h5_, h6_, h7_, h8_, h9_, h10_, h11_, h12_, h13_, h14_, h15_, s0_⟩
set_option maxHeartbeats 1000000 in
theorem acts11 {fuel : Nat} {cs : List Value} {y : DataW H × List MemPlace} (hf : DataW.trod enc Try.prog w base spare held fuel 32 cs = some y) :
    ∃ (q : Option Addr) (n cap g off : Nat) (os : List AcD), cs = [.slice q n cap] ∧ AcRow w q n cap g off os := by
  rcases Deep.open_slice Try.underlying32 hf with ⟨hcs, _⟩ | ⟨a', len, cap, m, n', D', Pl, hcs, hb, hl, hm, hmm, hx, hel⟩
  · exact ⟨none, 0, 0, 0, 0, [], hcs, rfl, by omega, by omega, fun h => absurd h (by omega), fun h => absurd h (by omega), fun j c hc => by simp at hc⟩
  · have hle : len ≤ m := by rw [hmm]; split <;> omega
    have key : ∀ j, j < len → ∃ x : AcD, w.cell? ((a'.add (j * 6)).add 0) = some (.int .i64 x.kd) ∧ w.cell? ((a'.add (j * 6)).add 1) = some (.int .i64 x.wh) ∧ w.cell? ((a'.add (j * 6)).add 2) = some (.int .i64 x.nm) ∧ w.cell? ((a'.add (j * 6)).add 3) = some (.int .i64 x.k) ∧ w.cell? ((a'.add (j * 6)).add 4) = some x.vo ∧ w.cell? ((a'.add (j * 6)).add 5) = some x.vn ∧ Is w x.vo x.o ∧ Is w x.vn x.n := by
      intro j hj
      obtain ⟨cs', h1, h2⟩ := hel j (by omega)
      rw [show Try.prog.cellsOf 52 = 6 by kernel_rfl] at h1
      obtain ⟨_, h3, h4⟩ := World.cells?_some h1
      obtain ⟨xs, m', _, hxe, _, hxl, hxx⟩ := DataW.trod_struct Try.underlying52 h2
      have hf0 := hxx 0 _ rfl
      have hf1 := hxx 1 _ rfl
      have hf2 := hxx 2 _ rfl
      have hf3 := hxx 3 _ rfl
      have hsz : xs.length = 4 := hxl
      rw [List.getElem?_eq_getElem (by omega)] at hf0 hf1 hf2 hf3
      obtain ⟨e0, e1, e2, e3, e4, e5, rfl⟩ : ∃ e0 e1 e2 e3 e4 e5, cs' = [e0, e1, e2, e3, e4, e5] := by
        match cs', h3 with
        | [e0, e1, e2, e3, e4, e5], _ => exact ⟨e0, e1, e2, e3, e4, e5, rfl⟩
      obtain ⟨k0, rfl, -⟩ := i64_of (e := e0) hf0
      obtain ⟨k1, rfl, -⟩ := i64_of (e := e1) hf1
      obtain ⟨k2, rfl, -⟩ := i64_of (e := e2) hf2
      obtain ⟨ys, m2, _, hye, _, hyl, hyy⟩ := DataW.trod_struct Try.underlying26 hf3
      have hg0 := hyy 0 _ rfl
      have hg1 := hyy 1 _ rfl
      have hg2 := hyy 2 _ rfl
      have hsy : ys.length = 3 := hyl
      rw [List.getElem?_eq_getElem (by omega)] at hg0 hg1 hg2
      obtain ⟨k3, rfl, -⟩ := i64_of (e := e3) hg0
      obtain ⟨q1, n1, c1, l1, ee1, hs1⟩ := nums11 hg1
      obtain ⟨q2, n2, c2, l2, ee2, hs2⟩ := nums11 hg2
      have h9 : [e4] = [Value.slice q1 n1 c1] := ee1
      obtain rfl : e4 = .slice q1 n1 c1 := by simpa using h9
      have h8 : [e5] = [Value.slice q2 n2 c2] := ee2
      obtain rfl : e5 = .slice q2 n2 c2 := by simpa using h8
      exact ⟨⟨k0, k1, k2, k3, .slice q1 n1 c1, l1, .slice q2 n2 c2, l2⟩, h4 0 (by omega), h4 1 (by omega), h4 2 (by omega), h4 3 (by omega), h4 4 (by omega), h4 5 (by omega), hs1, hs2⟩
    haveI : Inhabited AcD := ⟨⟨0, 0, 0, 0, .nilIface, [], .nilIface, []⟩⟩
    obtain ⟨L, hL⟩ := Deep.choose_lt key
    have hspot : 0 < len → a'.spot = none := fun h0 => by
      have h1 := (hL 0 h0).1
      have := spot_of_cell h1
      rw [Nat.zero_mul] at this
      simpa [Addr.add] using this
    refine ⟨some a', len, cap, a'.block, a'.off, (List.range len).map L, hcs, ⟨by simp, hl, hm, fun h0 => ?_, fun h0 => ?_, fun j x hx => ?_⟩⟩
    · have hs := hspot h0
      obtain ⟨b, o, s⟩ := a'; cases hs; rfl
    · have := World.block_lt_of_cell? w _ (hL 0 h0).1
      simpa [Addr.add] using this
    · have hj : j < len := by have := (List.getElem?_eq_some_iff.1 hx).1; simpa using this
      have hxj : x = L j := by simp [hj] at hx; exact hx.symm
      subst hxj
      have hs := hspot (by omega)
      obtain ⟨h0_, h1_, h2_, h3_, h4_, h5_, s0_, s1_⟩ := hL j hj
      rw [add_plain _ hs, add_plain _ rfl] at h0_ h1_ h2_ h3_ h4_ h5_
      exact ⟨h0_, h1_, h2_, h3_, h4_, h5_, s0_, s1_⟩
theorem open_acts {r : Reach} {b0 : Nat} {v : Value} {d : DataW H} {p : List MemPlace} (hv : Value.okWide Try.prog w r b0 32 v) (h : DataW.Trod enc Try.prog w base spare held 32 v d p) (hz : ∀ n ∈ d.weights Try.prog 32, n ≤ reachBytes) :
    ∃ (q : Option Addr) (n cap g off : Nat) (os : List AcD), v = .slice q n cap ∧ AcRow w q n cap g off os := by
  obtain ⟨a, len, cap, rfl⟩ := okWide_slice Try.underlying32 hv
  obtain ⟨fuel, hf⟩ := h
  obtain ⟨q, n, c, g, off, os, e, hs⟩ := acts11 hf
  have e1 : (Value.slice a len cap) = .slice q n c := by simpa [Value.cells] using e
  exact ⟨q, n, c, g, off, os, e1, hs⟩
/-- A round that is played. -/
structure PlD where
  n : Int
  b : Bt
  k : Int
  vo : Value
  o : List Int
  vn : Value
  m : List Int
abbrev plC (x : PlD) (v : Value) : Array Value := #[.int .i64 x.n, .int .i64 x.b.n, .int .i64 x.b.nd, .int .i64 x.b.lf, .int .i64 x.k, x.vo, x.vn, v]
set_option maxHeartbeats 1000000 in
theorem open_played {r : Reach} {b0 : Nat} {v : Value} {d : DataW H} {p : List MemPlace} (hv : Value.okWide Try.prog w r b0 29 v) (h : DataW.Trod enc Try.prog w base spare held 29 v d p) (hz : ∀ n ∈ d.weights Try.prog 29, n ≤ reachBytes) :
    ∃ (x : PlD) (q : Option Addr) (n cap g off : Nat) (os : List OpD), v = .agg (plC x (.slice q n cap)) ∧ IsZ w x.vo x.o ∧ IsZ w x.vn x.m ∧ OpRow w q n cap g off os := by
  obtain ⟨cs, rfl, hs, m, xs, rfl, hx⟩ := dy_struct (n := 8) Try.underlying29 (by kernel_rfl) hv h
  obtain ⟨x0, g0, f0⟩ := hx 0 _ rfl
  obtain ⟨x1, g1, f1⟩ := hx 1 _ rfl
  obtain ⟨x2, g2, f2⟩ := hx 2 _ rfl
  obtain ⟨x3, g3, f3⟩ := hx 3 _ rfl
  obtain ⟨e0, e1, e2, e3, e4, e5, e6, e7, rfl⟩ : ∃ e0 e1 e2 e3 e4 e5 e6 e7, cs = #[e0, e1, e2, e3, e4, e5, e6, e7] := by
    refine ⟨cs[0], cs[1], cs[2], cs[3], cs[4], cs[5], cs[6], cs[7], ?_⟩
    apply Array.ext
    · simpa using hs
    · intro i h1 h2
      have : i = 0 ∨ i = 1 ∨ i = 2 ∨ i = 3 ∨ i = 4 ∨ i = 5 ∨ i = 6 ∨ i = 7 := by omega
      rcases this with rfl | rfl | rfl | rfl | rfl | rfl | rfl | rfl <;> rfl
  obtain ⟨k0, rfl, -⟩ := i64_of (e := e0) f0
  obtain ⟨b, rfl, rfl, rfl⟩ := ballot11 (e0 := e1) (e1 := e2) (e2 := e3) f1
  have hz2 : ∀ n ∈ x2.1.weights Try.prog 26, n ≤ reachBytes := fun n hn => hz n (by simp only [DataW.weights, Try.underlying29]; exact DataW.weights_mem_each (j := 2) rfl g2 n hn)
  obtain ⟨ys, m2, _, hye, _, hyl, hyy⟩ := DataW.trod_struct Try.underlying26 f2
  have hye1 : x2.1 = .agg (ys.map (·.1)) := congrArg Prod.fst hye
  rw [hye1] at hz2
  have hg0 := hyy 0 _ rfl
  have hg1 := hyy 1 _ rfl
  have hg2 := hyy 2 _ rfl
  have hsy : ys.length = 3 := hyl
  rw [List.getElem?_eq_getElem (by omega)] at hg0 hg1 hg2
  obtain ⟨k4, rfl, -⟩ := i64_of (e := e4) hg0
  obtain ⟨q1, n1, c1, l1, ee1, hs1⟩ := numsZ hg1 (fun n hn => hz2 n (by simp only [DataW.weights, Try.underlying26]; exact DataW.weights_mem_each (j := 1) rfl (by rw [List.getElem?_map, List.getElem?_eq_getElem (by omega)]; rfl) n hn))
  obtain ⟨q2, n2, c2, l2, ee2, hs2⟩ := numsZ hg2 (fun n hn => hz2 n (by simp only [DataW.weights, Try.underlying26]; exact DataW.weights_mem_each (j := 2) rfl (by rw [List.getElem?_map, List.getElem?_eq_getElem (by omega)]; rfl) n hn))
  have h9 : [e5] = [Value.slice q1 n1 c1] := ee1
  obtain rfl : e5 = .slice q1 n1 c1 := by simpa using h9
  have h8 : [e6] = [Value.slice q2 n2 c2] := ee2
  obtain rfl : e6 = .slice q2 n2 c2 := by simpa using h8
  obtain ⟨q, n, c, g, off, os, e, hr⟩ := ops11 f3
  have h7 : [e7] = [Value.slice q n c] := e
  obtain rfl : e7 = .slice q n c := by simpa using h7
  exact ⟨⟨k0, b, k4, .slice q1 n1 c1, l1, .slice q2 n2 c2, l2⟩, q, n, c, g, off, os, rfl, hs1, hs2, hr⟩
end
end Go.Proofs.Ytpcejajidhfmpaa
