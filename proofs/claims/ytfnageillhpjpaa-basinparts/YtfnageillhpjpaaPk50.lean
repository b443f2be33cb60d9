/-
  What comes in to the laws on basins: basins that are played.
  What comes in to the laws on basins: rows of operations, rows of places.
  What the laws on basins ask ahead: long, fed.
  basin's Feed, whatever it is handed: what it leaves.
-/
import Derived.Test.YtfnageillhpjpaaPk44
import Derived.Test.YtfnageillhpjpaaPk28
import Derived.Test.YtfnageillhpjpaaPk09
import Derived.Test.YtfnageillhpjpaaPk30
import Derived.Test.YtfnageillhpjpaaPk32
import Derived.Test.YtfnageillhpjpaaPk46
namespace Go.Proofs.Ytfnageillhpjpaa
open Go.ChangeShapes Go.WideShapes Go.ChangeAt Go.RowKit
set_option linter.unusedVariables false
set_option maxRecDepth 100000

theorem er_rows16 {W : World} {q : Option Addr} {g off n cap : Nat} {l : List (Nat → Int)} (hn : l.length = n) (hc : n ≤ cap) (hm : cap ≤ 9223372036854775807) (hp : 0 < n → q = some ⟨g, off, none⟩) (hg : 0 < n → g < W.heap.size)
    (hr : ∀ j c, l[j]? = some c → ∀ i, i < 2 → W.cell? ⟨g, off + j * 2 + i, none⟩ = some (.int .i64 (c i)) ∧ (Lit.int .i64 (c i)).wf = true) : ER E2 W (.slice q n cap) (l.map fun c => (c 0, c 1)) ∧ ∀ p ∈ l.map (fun c => (c 0, c 1)), J64 p.1 ∧ J64 p.2 := by
  have hl : (l.map fun c => (c 0, c 1)).length = n := by rw [List.length_map]; exact hn
  refine ⟨⟨q, cap, g, off, by rw [hl], by rw [hl]; exact hc, hm, fun h => ⟨hp (by rwa [hl] at h), hg (by rwa [hl] at h)⟩, fun j u hu => ?_⟩, fun p hp => ?_⟩
  · have hj := (List.getElem?_eq_some_iff.1 hu).1
    rw [E2.fl_len, hl] at hj
    have hjd : j / 2 < l.length := by rw [hn]; exact Nat.div_lt_of_lt_mul (by rw [Nat.mul_comm]; exact hj)
    have hm2 : j % 2 < 2 := Nat.mod_lt _ (by omega)
    have hx := hr (j / 2) _ (List.getElem?_eq_getElem hjd) (j % 2) hm2
    have hy := E2.fl_at (l.map fun c => (c 0, c 1)) (j / 2) _ (by rw [List.getElem?_map, List.getElem?_eq_getElem hjd]; rfl) (j % 2) (.int .i64 (l[j / 2] (j % 2))) (by
      have : j % 2 = 0 ∨ j % 2 = 1 := by omega
      rcases this with e | e <;> rw [e] <;> rfl)
    rw [show j / 2 * E2.k + j % 2 = j by show j / 2 * 2 + j % 2 = j; omega, hu] at hy
    cases hy
    rw [show off + j = off + j / 2 * 2 + j % 2 by omega]
    exact hx.1
  · obtain ⟨c, hc, rfl⟩ := List.mem_map.1 hp
    obtain ⟨j, hj⟩ := List.mem_iff_getElem?.1 hc
    exact ⟨bounds_i64 (hr j c hj 0 (by omega)).2, bounds_i64 (hr j c hj 1 (by omega)).2⟩
theorem er_rows5 {W : World} {q : Option Addr} {g off n cap : Nat} {l : List (Nat → Int)} (hn : l.length = n) (hc : n ≤ cap) (hm : cap ≤ 9223372036854775807) (hp : 0 < n → q = some ⟨g, off, none⟩) (hg : 0 < n → g < W.heap.size)
    (hr : ∀ j c, l[j]? = some c → ∀ i, i < 5 → W.cell? ⟨g, off + j * 5 + i, none⟩ = some (.int .i64 (c i)) ∧ (Lit.int .i64 (c i)).wf = true) : ER E5 W (.slice q n cap) (l.map fun c => (⟨c 0, c 1, c 2, c 3, c 4⟩ : Op5)) ∧ ∀ p ∈ l.map (fun c => (⟨c 0, c 1, c 2, c 3, c 4⟩ : Op5)), Fit5 p := by
  have hl : (l.map fun c => (⟨c 0, c 1, c 2, c 3, c 4⟩ : Op5)).length = n := by rw [List.length_map]; exact hn
  refine ⟨⟨q, cap, g, off, by rw [hl], by rw [hl]; exact hc, hm, fun h => ⟨hp (by rwa [hl] at h), hg (by rwa [hl] at h)⟩, fun j u hu => ?_⟩, fun p hp => ?_⟩
  · have hj := (List.getElem?_eq_some_iff.1 hu).1
    rw [E5.fl_len, hl] at hj
    have hjd : j / 5 < l.length := by rw [hn]; exact Nat.div_lt_of_lt_mul (by rw [Nat.mul_comm]; exact hj)
    have hm2 : j % 5 < 5 := Nat.mod_lt _ (by omega)
    have hx := hr (j / 5) _ (List.getElem?_eq_getElem hjd) (j % 5) hm2
    have hy := E5.fl_at (l.map fun c => (⟨c 0, c 1, c 2, c 3, c 4⟩ : Op5)) (j / 5) _ (by rw [List.getElem?_map, List.getElem?_eq_getElem hjd]; rfl) (j % 5) (.int .i64 (l[j / 5] (j % 5))) (by
      have : j % 5 = 0 ∨ j % 5 = 1 ∨ j % 5 = 2 ∨ j % 5 = 3 ∨ j % 5 = 4 := by omega
      rcases this with e | e | e | e | e <;> rw [e] <;> rfl)
    rw [show j / 5 * E5.k + j % 5 = j by show j / 5 * 5 + j % 5 = j; omega, hu] at hy
    cases hy
    rw [show off + j = off + j / 5 * 5 + j % 5 by omega]
    exact hx.1
  · obtain ⟨c, hc, rfl⟩ := List.mem_map.1 hp
    obtain ⟨j, hj⟩ := List.mem_iff_getElem?.1 hc
    exact ⟨bounds_i64 (hr j c hj 0 (by omega)).2, bounds_i64 (hr j c hj 1 (by omega)).2, bounds_i64 (hr j c hj 2 (by omega)).2, bounds_i64 (hr j c hj 3 (by omega)).2, bounds_i64 (hr j c hj 4 (by omega)).2⟩
theorem ER.outB16 {α : Type} {E : En α} {W : World} {v : Value} {l : List α} {X : Nat → Prop} (h : ER E W v l) (hl : 0 < l.length) (hX : ∀ k, X k → W.heap.size ≤ k) : OutB v X := by
  obtain ⟨q, cap, g, off, rfl, h2, h3, h4, h5⟩ := h
  obtain ⟨rfl, hg⟩ := h4 hl
  intro a n c e hx
  cases e
  have := hX _ hx
  exact absurd hg (by show ¬ g < W.heap.size; have h9 : W.heap.size ≤ g := this; omega)
/-- A call. -/
structure SeD where
  kd : Int
  sr : Int
  nx : Bool
  fr : Int
  la : Int
  vc : Value
  cu : List (Int × Int)
  vo : Value
  ops : List Op5
  p : Int × Int
structure SeF (x : SeD) : Prop where
  kd : J64 x.kd
  sr : J64 x.sr
  fr : J64 x.fr
  la : J64 x.la
  cu : ∀ p ∈ x.cu, J64 p.1 ∧ J64 p.2
  ops : ∀ o ∈ x.ops, Fit5 o
  p : J64 x.p.1 ∧ J64 x.p.2
structure SeAt (W : World) (g o : Nat) (x : SeD) : Prop where
  c0 : W.cell? ⟨g, o, none⟩ = some (.int .i64 x.kd)
  c1 : W.cell? ⟨g, o + 1, none⟩ = some (.int .i64 x.sr)
  c2 : W.cell? ⟨g, o + 2, none⟩ = some (.bool x.nx)
  c3 : W.cell? ⟨g, o + 3, none⟩ = some (.int .i64 x.fr)
  c4 : W.cell? ⟨g, o + 4, none⟩ = some (.int .i64 x.la)
  c5 : W.cell? ⟨g, o + 5, none⟩ = some x.vc
  c6 : W.cell? ⟨g, o + 6, none⟩ = some x.vo
  c7 : W.cell? ⟨g, o + 7, none⟩ = some (.int .i64 x.p.1)
  c8 : W.cell? ⟨g, o + 8, none⟩ = some (.int .i64 x.p.2)
  sc : ER E2 W x.vc x.cu
  so : ER E5 W x.vo x.ops
  few : x.ops.length ≤ 3518437208881
  fit : SeF x
theorem SeAt.keep {W W' : World} {g o : Nat} {x : SeD} (h : SeAt W g o x) (hg : g < W.heap.size) (hb : Below W.heap.size W W') : SeAt W' g o x :=
  ⟨keep_cell hb h.c0 hg, keep_cell hb h.c1 hg, keep_cell hb h.c2 hg, keep_cell hb h.c3 hg, keep_cell hb h.c4 hg, keep_cell hb h.c5 hg, keep_cell hb h.c6 hg, keep_cell hb h.c7 hg, keep_cell hb h.c8 hg, h.sc.keep hb, h.so.keep hb, h.few, h.fit⟩
structure SeRow (W : World) (q : Option Addr) (n cap g off : Nat) (os : List SeD) : Prop where
  len : os.length = n
  fits : n ≤ cap
  max : cap ≤ 9223372036854775807
  ptr : 0 < n → q = some ⟨g, off, none⟩
  lt : 0 < n → g < W.heap.size
  row : ∀ j x, os[j]? = some x → SeAt W g (off + j * 9) x
theorem SeRow.keep {W W' : World} {q : Option Addr} {n cap g off : Nat} {os : List SeD} (h : SeRow W q n cap g off os) (hb : Below W.heap.size W W') : SeRow W' q n cap g off os :=
  ⟨h.len, h.fits, h.max, h.ptr, fun h0 => Nat.lt_of_lt_of_le (h.lt h0) hb.size, fun j x hx => (h.row j x hx).keep (h.lt (by have := (List.getElem?_eq_some_iff.1 hx).1; have := h.len; omega)) hb⟩
section
variable {H : Type} {enc : TypeId × Value → H} {w : World} {base : Nat} {spare : Nat → Bool} {held : Bool}
theorem b_of {fuel : Nat} {e : Value} {x : DataW H × List MemPlace} (hf : DataW.trod enc Try.prog w base spare held fuel 4 [e] = some x) : ∃ b, e = .bool b := by
  obtain ⟨b, e1, -⟩ := DataW.trod_bool Try.underlying4 hf
  exact ⟨b, by simpa using e1⟩
theorem nums16 {fuel : Nat} {cs : List Value} {x : DataW H × List MemPlace} (hf : DataW.trod enc Try.prog w base spare held fuel 23 cs = some x) (hw : ∀ n ∈ x.1.weights Try.prog 23, n ≤ reachBytes) :
    ∃ q n cap l, cs = [.slice q n cap] ∧ Is w (.slice q n cap) l ∧ In64 l ∧ l.length ≤ 17592186043904 := by
  obtain ⟨q, g, off, len, cap, l, e, hl, hk, hm, hp, hg, hc⟩ := rows_of (n := 1) (D := 8) (fun _ => .i64) Try.underlying23 (by kernel_rfl) (by omega) (kinds_of (by kernel_rfl)) hf
  subst e
  have z := len_ofT Try.underlying23 hf hw
  rw [show Try.prog.bytesOf 3 = 8 by kernel_rfl] at z
  unfold reachBytes at z
  obtain ⟨h1, h2⟩ := is_rows hl hk hm hp hg hc
  exact ⟨q, len, cap, _, rfl, h1, h2, by rw [List.length_map]; omega⟩
theorem places16 {fuel : Nat} {cs : List Value} {x : DataW H × List MemPlace} (hf : DataW.trod enc Try.prog w base spare held fuel 36 cs = some x) :
    ∃ q n cap l, cs = [.slice q n cap] ∧ ER E2 w (.slice q n cap) l ∧ ∀ p ∈ l, J64 p.1 ∧ J64 p.2 := by
  obtain ⟨q, g, off, len, cap, l, e, hl, hk, hm, hp, hg, hc⟩ := rows_of (n := 2) (D := 8) (fun _ => .i64) Try.underlying36 (by kernel_rfl) (by omega) (kinds_of (by kernel_rfl)) hf
  obtain ⟨h1, h2⟩ := er_rows16 hl hk hm hp hg hc
  exact ⟨q, len, cap, _, e, h1, h2⟩
theorem opsl16 {fuel : Nat} {cs : List Value} {x : DataW H × List MemPlace} (hf : DataW.trod enc Try.prog w base spare held fuel 22 cs = some x) (hw : ∀ n ∈ x.1.weights Try.prog 22, n ≤ reachBytes) :
    ∃ q n cap l, cs = [.slice q n cap] ∧ ER E5 w (.slice q n cap) l ∧ (∀ p ∈ l, Fit5 p) ∧ l.length ≤ 3518437208881 := by
  obtain ⟨q, g, off, len, cap, l, e, hl, hk, hm, hp, hg, hc⟩ := rows_of (n := 5) (D := 8) (fun _ => .i64) Try.underlying22 (by kernel_rfl) (by omega) (kinds_of (by kernel_rfl)) hf
  subst e
  have z := len_ofT Try.underlying22 hf hw
  rw [show Try.prog.bytesOf 27 = 40 by kernel_rfl] at z
  unfold reachBytes at z
  obtain ⟨h1, h2⟩ := er_rows5 hl hk hm hp hg hc
  exact ⟨q, len, cap, _, rfl, h1, h2, by rw [List.length_map]; omega⟩
/-- A basin that is played. -/
structure CeD where
  sr : Int
  qr : Option Addr
  nr : Nat
  cr : Nat
  res : List Int
  sh : Int
  mo : Int
  q : Option Addr
  n : Nat
  cap : Nat
  g : Nat
  off : Nat
  os : List SeD
def ceA (x : CeD) : Array Value := #[.int .i64 x.sr, .slice x.qr x.nr x.cr, .int .i64 x.sh, .int .i64 x.mo, .slice x.q x.n x.cap]
structure CeZ (W : World) (x : CeD) : Prop where
  sr : J64 x.sr
  re : Is W (.slice x.qr x.nr x.cr) x.res
  rb : In64 x.res
  rl : x.res.length ≤ 17592186043904
  sh : J64 x.sh
  mo : J64 x.mo
  row : SeRow W x.q x.n x.cap x.g x.off x.os
theorem CeZ.keep {W W' : World} {x : CeD} (h : CeZ W x) (hb : Below W.heap.size W W') : CeZ W' x := ⟨h.sr, h.re.keep hb, h.rb, h.rl, h.sh, h.mo, h.row.keep hb⟩
end
end Go.Proofs.Ytfnageillhpjpaa
namespace Go.Proofs.Ytfnageillhpjpaa
open Go.ChangeShapes Go.WideShapes Go.ChangeAt Go.RowKit
set_option linter.unusedVariables false
set_option maxRecDepth 100000

section
variable {H : Type} {enc : TypeId × Value → H} {w : World} {base : Nat} {spare : Nat → Bool} {held : Bool}
theorem opsn16 {fuel : Nat} {cs : List Value} {x : DataW H × List MemPlace} (hf : DataW.trod enc Try.prog w base spare held fuel 22 cs = some x) :
    ∃ q n cap l, cs = [.slice q n cap] ∧ ER E5 w (.slice q n cap) l ∧ ∀ p ∈ l, Fit5 p := by
  obtain ⟨q, g, off, len, cap, l, e, hl, hk, hm, hp, hg, hc⟩ := rows_of (n := 5) (D := 8) (fun _ => .i64) Try.underlying22 (by kernel_rfl) (by omega) (kinds_of (by kernel_rfl)) hf
  subst e
  obtain ⟨h1, h2⟩ := er_rows5 hl hk hm hp hg hc
  exact ⟨q, len, cap, _, rfl, h1, h2⟩
theorem open_ops16 {r : Reach} {b0 : Nat} {v : Value} {d : DataW H} {p : List MemPlace} (hv : Value.okWide Try.prog w r b0 22 v) (h : DataW.Trod enc Try.prog w base spare held 22 v d p) : ∃ l, ER E5 w v l ∧ ∀ o ∈ l, Fit5 o := by
  obtain ⟨a, len, cap, rfl⟩ := okWide_slice Try.underlying22 hv
  obtain ⟨fuel, hf⟩ := h
  obtain ⟨q, n, c, l, e, h1, h2⟩ := opsn16 hf
  have e1 : (Value.slice a len cap) = .slice q n c := by simpa [Value.cells] using e
  cases e1
  exact ⟨l, h1, h2⟩
theorem open_places16 {r : Reach} {b0 : Nat} {v : Value} {d : DataW H} {p : List MemPlace} (hv : Value.okWide Try.prog w r b0 36 v) (h : DataW.Trod enc Try.prog w base spare held 36 v d p) : ∃ l, ER E2 w v l ∧ ∀ p ∈ l, J64 p.1 ∧ J64 p.2 := by
  obtain ⟨a, len, cap, rfl⟩ := okWide_slice Try.underlying36 hv
  obtain ⟨fuel, hf⟩ := h
  obtain ⟨q, n, c, l, e, h1, h2⟩ := places16 hf
  have e1 : (Value.slice a len cap) = .slice q n c := by simpa [Value.cells] using e
  cases e1
  exact ⟨l, h1, h2⟩
end
end Go.Proofs.Ytfnageillhpjpaa
namespace Go.Proofs.Ytfnageillhpjpaa
open Go.RowKit Go.Maps
set_option linter.unusedVariables false
set_option maxRecDepth 100000

/-- A call's cells. -/
def seA (x : SeD) : Array Value := #[.int .i64 x.kd, .int .i64 x.sr, .bool x.nx, .int .i64 x.fr, .int .i64 x.la, x.vc, x.vo, .int .i64 x.p.1, .int .i64 x.p.2]
/-- Some answer. -/
def BoolE (e : Ending) : Prop := ∃ b : Bool, e = .returned (.bool b)
theorem boolE (b : Bool) : BoolE (.returned (.bool b)) := ⟨b, rfl⟩
theorem i64_wrap16 (x : Int) : IntKind.i64.wrap x = wrap64 x := Go.IntWalk.i64_left x
/-- The numbers of a call, with the next one in From's place. -/
def feF (x : SeD) (nx : Int) : Int := if x.nx = true then nx else x.fr
def feL (x : SeD) (nx : Int) : Int := if x.nx = true then wrap64 (wrap64 (x.la + nx) - 1) else x.la
def shO (d : Int) (o : Op5) : Op5 := { o with s := wrap64 (o.s + d) }
def feO (x : SeD) (nx : Int) : List Op5 := if x.nx = true then x.ops.map (shO (wrap64 (nx - 1))) else x.ops
/-- What fed answers. -/
def FedE (K : Bkk) (e : Ending) (w' : World) (x : SeD) (nx : Int) : Prop := ∃ q c, e = .returned (.tuple #[.int .i64 (feF x nx), .int .i64 (feL x nx), .slice q (feO x nx).length c]) ∧ Stay E5 K w' (.slice q (feO x nx).length c) (feO x nx)
theorem feO_fit {x : SeD} (h : SeF x) (nx : Int) : ∀ o ∈ feO x nx, Fit5 o := by
  intro o ho
  unfold feO at ho
  split at ho
  · obtain ⟨y, hy, rfl⟩ := List.mem_map.1 ho
    have := h.ops y hy
    exact ⟨by show J64 (wrap64 _); unfold J64 wrap64; omega, this.k, this.t, this.y, this.v⟩
  · exact h.ops o ho
theorem app_eL {P : Program} {α : Type} {E : En α} {ops : Array Oper} {rest : List Oper} {o : Oper} {a : Act} {w : World} {Q : Exit → Act → World → Prop} (A : World) (hw : Region.wanted o (yielded ops a.tmps) = true) {s x : Operand} {t e : TypeId} {bytes : Nat} {z : Value} (ho : o.op = .call { callee := .builtin .append, args := #[s, x], argTypes := #[t, t] })
    (ht : P.underlying t = some (.slice e)) (hinf : (P.info? e).map (fun i => (i.zero, i.size, i.bytes)) = some (some z, E.k, bytes)) (hz : z.cells.size = E.k)
    {v vx : Value} {l m : List α} (hs : a.eval s = v) (hown : EO E e w A.heap.size v l) (hx : a.eval x = vx) (hsl : ER E w vx m) (h63 : l.length + m.length ≤ 4000000000000) (hbytes : (l.length + m.length) * bytes ≤ 140737488355328) (hA : Below A.heap.size A w)
    (h : ∀ v' w', EO E e w' A.heap.size v' (l ++ m) → Below A.heap.size A w' → w.grownBy w' v.ownBlock → wpList P ops Q rest (a.put o.dst v') w') : wpList P ops Q (o :: rest) a w := by
  obtain ⟨q, cap, rfl, hq, hsrc⟩ := hsl.src
  refine app_ownG A hw ho ht hinf hz E.pos hs hown (E.fl m) hx hq (E.fl_len m) hsrc (E.fl_cell m) (by unfold maxLen; omega) hbytes hA fun v' w' h1 h2 h3 h4 => ?_
  rw [← E.fl_append] at h1
  exact h v' w' (eo_of h1) h3 h4
theorem shO_take {l : List Op5} {k : Nat} {o : Op5} {d : Int} (h : l[k]? = some o) : ((l.take k).map (shO d) ++ l.drop k).set k (shO d o) = (l.take (k + 1)).map (shO d) ++ l.drop (k + 1) := by
  obtain ⟨hk, he⟩ := List.getElem?_eq_some_iff.1 h
  have h1 : ((l.take k).map (shO d)).length = k := by rw [List.length_map, List.length_take]; omega
  rw [List.set_append_right _ _ (by omega), h1, Nat.sub_self, List.drop_eq_getElem_cons hk, List.set_cons_zero, List.take_add_one, h]
  simp
theorem shO_at {l : List Op5} {k : Nat} {o : Op5} {d : Int} (h : l[k]? = some o) : ((l.take k).map (shO d) ++ l.drop k)[k]? = some o := by
  obtain ⟨hk, he⟩ := List.getElem?_eq_some_iff.1 h
  have h1 : ((l.take k).map (shO d)).length = k := by rw [List.length_map, List.length_take]; omega
  rw [List.getElem?_append_right (by omega), h1, Nat.sub_self, List.getElem?_drop, Nat.add_zero, h]
end Go.Proofs.Ytfnageillhpjpaa
namespace Go.Proofs.Ytfnageillhpjpaa
open Go.RowKit
set_option linter.unusedVariables false
set_option maxRecDepth 100000

/-- A slice that came in stays, whatever a basin's calls turn. -/
theorem stay_in {α : Type} {E : En α} {K : Bkk} {A W : World} {v : Value} {l : List α} (h : ER E A v l) (hX : ∀ k, bkB K k → A.heap.size ≤ k) (hb : Below A.heap.size A W) : Stay E K W v l := by
  by_cases h0 : 0 < l.length
  · exact stay_out (h.keep hb) (ER.outB16 h h0 hX)
  · intro V hV
    obtain ⟨q, cap, g, off, h1, h2, h3, h4, h5⟩ := h
    have hl : l = [] := List.length_eq_zero_iff.1 (by omega)
    subst hl
    exact ⟨q, cap, g, off, h1, h2, h3, fun h => absurd h h0, fun j u hu => by simp [En.fl] at hu⟩
theorem feL_J {x : SeD} (h : SeF x) (nx : Int) : J64 (feL x nx) := by
  unfold feL
  split
  · unfold J64 wrap64; omega
  · exact h.la
structure FdU (T T' : Bsn) (n fr la : Int) (ops : List Op5) (r : Nat) : Prop where
  res : T'.res = T.res
  sh : T'.sh = T.sh
  mo : T'.mo = T.mo
  fl : T'.fl.length = T.fl.length
  np : npB T'
  cs : r = 0 ∨ r = 7 ∨ r = 2 ∨ r = 11
  all : (r = 0 ∨ r = 7) → ∀ p ∈ ops, p.k ≠ 2 → (r = 0 ∨ p.s < nxN T' n) → ∀ k ∈ idL p.t p.y T.sh T.res, decide (k ∈ T'.ks) = !pasB T'.ba k
  nx : r = 7 → fr ≤ nxN T' n ∧ nxN T' n ≤ la
def FdE (B : Nat) (K : Bkk) (T : Bsn) (n fr la : Int) (ops : List Op5) (e : Ending) (w w' : World) : Prop := ∃ r T', e = .returned (errV r) ∧ Bq w' B K T' ∧ Frm (bkB K) w w' ∧ FdU T T' n fr la ops r
theorem bafeed_u {B : Nat} {K : Bkk} {T : Bsn} (src fr la : Int) (vc vo : Value) (cut : List (Int × Int)) (ops : List Op5) (w : World) (h : Bq w B K T) (hn : npB T) (hc : Stay E2 K w vc cut) (hO : Stay E5 K w vo ops)
    (hcj : ∀ p ∈ cut, J64 p.1 ∧ J64 p.2) (hoj : ∀ o ∈ ops, Fit5 o) (hla : J64 la) :
    Calls Try.prog 7 #[bptr K, .int .i64 src, .int .i64 fr, .int .i64 la, vc, vo] w fun e w' => FdE B K T src fr la ops e w w' := by
  by_cases hf : fdF T src fr la cut ops
  · obtain ⟨i, rfl, hi⟩ := hasN_no (n := src) (m := T.fl.length) (decide_eq_true hf.1)
    obtain ⟨f, hfi⟩ : ∃ f, T.fl[i]? = some f := ⟨T.fl[i], List.getElem?_eq_getElem hi⟩
    by_cases hx : fr = f.nx
    · refine (bafeed_ok i fr la vc vo cut ops w h hc hO hf hfi hx hcj hoj hla).mono ?_
      rintro e w' ⟨rfl, hB, hF⟩
      have hk := fd_kept (cut := cut) (S := T) (la := la) hf.2.2.2 hi
      have hnx : nxN (fdZ T i la cut ops) (i : Int) = nxOf (fdZ T i la cut ops) i := by
        unfold nxN
        rw [if_pos (show hasN (i : Int) (fdZ T i la cut ops).fl.length = true from decide_eq_true (by rw [hk.fl]; omega)), Int.toNat_natCast]
      refine ⟨_, _, rfl, hB, hF, hk.res, hk.sh, hk.mo, hk.fl, hk.np, ?_, fun _ p hp hk2 hs k hkm => ?_, fun h7 => ?_⟩
      · unfold tkE
        cases (fdR T i cut ops).2 with
        | none => exact .inl rfl
        | some s => exact .inr (.inl rfl)
      · refine hk.all p hp hk2 (fun s hs2 => ?_) k (by rw [hk.sh, hk.res]; exact hkm)
        rcases hs with h0 | h1
        · unfold tkE at h0
          rw [hs2] at h0
          cases h0
        · rw [hnx, (hk.nx s hs2).1] at h1
          exact h1
      · unfold tkE at h7
        cases hr : (fdR T i cut ops).2 with
        | none => rw [hr] at h7; cases h7
        | some s =>
          obtain ⟨e1, e2, e3⟩ := hk.nx s hr
          rw [hnx, e1]
          exact ⟨e2, e3⟩
    · refine (bafeed_stale i fr la vc vo cut ops w h hc.er hO.er hf hfi hx).mono ?_
      rintro e w' ⟨rfl, hb⟩
      exact ⟨11, T, by rw [errV_no (by omega)]; rfl, h.keep hb, frm_below hb, rfl, rfl, rfl, rfl, hn, by omega, fun h => by omega, fun h => by omega⟩
  · refine (bafeed_form src fr la vc vo cut ops w h hc.er hO.er hf).mono ?_
    rintro e w' ⟨rfl, hb⟩
    exact ⟨2, T, by rw [errV_no (by omega)]; rfl, h.keep hb, frm_below hb, rfl, rfl, rfl, rfl, hn, by omega, fun h => by omega, fun h => by omega⟩
end Go.Proofs.Ytfnageillhpjpaa
