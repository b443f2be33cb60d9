/-
  What comes in: a row of steps of estuarylaw09; what Prepare and Accept come to.
-/
import Derived.Test.YthpiajnnfchcjaaBlF
import Derived.Test.YthpiajnnfchcjaaSzL
namespace Go.Proofs.Ythpiajnnfchcjaa
open Go.ChangeShapes Go.WideShapes Go.ChangeAt Go.RowKit
set_option linter.unusedVariables false

/-- A step: an Accept or a Prepare, its ballot, its value. -/
structure StD where
  ac : Bool
  b : Bt
  v : Value
  l : List Int
/-- A step in memory. -/
structure StAt (W : World) (g o : Nat) (x : StD) : Prop where
  c0 : W.cell? ⟨g, o, none⟩ = some (.bool x.ac)
  c1 : W.cell? ⟨g, o + 1, none⟩ = some (.int .i64 x.b.n)
  c2 : W.cell? ⟨g, o + 2, none⟩ = some (.int .i64 x.b.nd)
  c3 : W.cell? ⟨g, o + 3, none⟩ = some (.int .i64 x.b.lf)
  c4 : W.cell? ⟨g, o + 4, none⟩ = some x.v
  sl : Is W x.v x.l
theorem StAt.keep {W W' : World} {g o : Nat} {x : StD} (h : StAt W g o x) (hg : g < W.heap.size) (hb : Below W.heap.size W W') : StAt W' g o x :=
  ⟨keep_cell hb h.c0 hg, keep_cell hb h.c1 hg, keep_cell hb h.c2 hg, keep_cell hb h.c3 hg, keep_cell hb h.c4 hg, h.sl.keep hb⟩
structure Sc9 (W : World) (q : Option Addr) (n cap g off : Nat) (os : List StD) : Prop where
  len : os.length = n
  fits : n ≤ cap
  max : cap ≤ 9223372036854775807
  ptr : 0 < n → q = some ⟨g, off, none⟩
  lt : 0 < n → g < W.heap.size
  row : ∀ j x, os[j]? = some x → StAt W g (off + j * 5) x
section
variable {H : Type} {enc : TypeId × Value → H} {w : World} {base : Nat} {spare : Nat → Bool} {held : Bool}
set_option maxRecDepth 100000 in
set_option maxHeartbeats 1000000 in
theorem open_steps {r : Reach} {b0 : Nat} {v : Value} {d : DataW H} {p : List MemPlace} (hv : Value.okWide Try.prog w r b0 47 v) (h : DataW.Trod enc Try.prog w base spare held 47 v d p) :
    ∃ (q : Option Addr) (n cap g off : Nat) (os : List StD), v = .slice q n cap ∧ Sc9 w q n cap g off os := by
  obtain ⟨a, len, cap, rfl⟩ := okWide_slice Try.underlying47 hv
  obtain ⟨fuel, hf⟩ := h
  rcases Deep.open_slice Try.underlying47 hf with ⟨hcs, _⟩ | ⟨a', len', cap', m, n', D', Pl, hcs, hb, hl, hm, hmm, hx, hel⟩
  · have e1 : (Value.slice a len cap) = .slice none 0 0 := by simpa [Value.cells] using hcs
    cases e1
    exact ⟨none, 0, 0, 0, 0, [], rfl, rfl, by omega, by omega, fun h => absurd h (by omega), fun h => absurd h (by omega), fun j c hc => by simp at hc⟩
  · have e1 : (Value.slice a len cap) = .slice (some a') len' cap' := by simpa [Value.cells] using hcs
    cases e1
    have hle : len ≤ m := by rw [hmm]; split <;> omega
    have key : ∀ j, j < len → ∃ x : StD, w.cell? ((a'.add (j * 5)).add 0) = some (.bool x.ac) ∧ w.cell? ((a'.add (j * 5)).add 1) = some (.int .i64 x.b.n) ∧ w.cell? ((a'.add (j * 5)).add 2) = some (.int .i64 x.b.nd) ∧ w.cell? ((a'.add (j * 5)).add 3) = some (.int .i64 x.b.lf) ∧ w.cell? ((a'.add (j * 5)).add 4) = some x.v ∧ Is w x.v x.l := by
      intro j hj
      obtain ⟨cs', h1, h2⟩ := hel j (by omega)
      rw [show Try.prog.cellsOf 49 = 5 by kernel_rfl] at h1
      obtain ⟨_, h3, h4⟩ := World.cells?_some h1
      obtain ⟨xs, m', _, hxe, _, hxl, hxx⟩ := DataW.trod_struct Try.underlying49 h2
      have hf0 := hxx 0 _ rfl
      have hf1 := hxx 1 _ rfl
      have hf2 := hxx 2 _ rfl
      have hsz : xs.length = 3 := hxl
      rw [List.getElem?_eq_getElem (by omega)] at hf0 hf1 hf2
      obtain ⟨e0, e1, e2, e3, e4, rfl⟩ : ∃ e0 e1 e2 e3 e4, cs' = [e0, e1, e2, e3, e4] := by
        match cs', h3 with
        | [e0, e1, e2, e3, e4], _ => exact ⟨e0, e1, e2, e3, e4, rfl⟩
      obtain ⟨k0, rfl⟩ := bool_of (e := e0) hf0
      obtain ⟨k1, f1, -⟩ := flat_cell 8 _ 23 _ _ 0 .i64 hf1 (by kernel_rfl)
      obtain ⟨k2, f2, -⟩ := flat_cell 8 _ 23 _ _ 1 .i64 hf1 (by kernel_rfl)
      obtain ⟨k3, f3, -⟩ := flat_cell 8 _ 23 _ _ 2 .i64 hf1 (by kernel_rfl)
      obtain rfl : e1 = .int .i64 k1 := by have h9 : ([e1, e2, e3] : List Value)[0]? = some (Value.int .i64 k1) := f1; simpa using h9
      obtain rfl : e2 = .int .i64 k2 := by have h9 : ([Value.int .i64 k1, e2, e3] : List Value)[1]? = some (Value.int .i64 k2) := f2; simpa using h9
      obtain rfl : e3 = .int .i64 k3 := by have h9 : ([Value.int .i64 k1, .int .i64 k2, e3] : List Value)[2]? = some (Value.int .i64 k3) := f3; simpa using h9
      obtain ⟨q, g, off, len2, cap2, l2, ee, hl2, hk2, hm2, hp2, hg2, hc2⟩ := rows_of (n := 1) (D := 8) (fun _ => .i64) Try.underlying29 (by kernel_rfl) (by omega) (kinds_of (by kernel_rfl)) hf2
      obtain rfl : e4 = .slice q len2 cap2 := by have h9 : [e4] = [Value.slice q len2 cap2] := ee; simpa using h9
      exact ⟨⟨k0, ⟨k1, k2, k3⟩, .slice q len2 cap2, _⟩, h4 0 (by omega), h4 1 (by omega), h4 2 (by omega), h4 3 (by omega), h4 4 (by omega), (is_rows hl2 hk2 hm2 hp2 hg2 hc2).1⟩
    haveI : Inhabited StD := ⟨⟨false, zB, .nilIface, []⟩⟩
    obtain ⟨L, hL⟩ := Deep.choose_lt key
    have hspot : 0 < len → a'.spot = none := fun h0 => by
      have h1 := (hL 0 h0).1
      have := spot_of_cell h1
      rw [Nat.zero_mul] at this
      simpa [Addr.add] using this
    refine ⟨some a', len, cap, a'.block, a'.off, (List.range len).map L, rfl, by simp, hl, hm, fun h0 => ?_, fun h0 => ?_, fun j x hx => ?_⟩
    · have hs := hspot h0
      obtain ⟨b, o, s⟩ := a'; cases hs; rfl
    · have := World.block_lt_of_cell? w _ (hL 0 h0).1
      simpa [Addr.add] using this
    · have hj : j < len := by have := (List.getElem?_eq_some_iff.1 hx).1; simpa using this
      have hxj : x = L j := by simp [hj] at hx; exact hx.symm
      subst hxj
      have hs := hspot (by omega)
      obtain ⟨h0, h1, h2, h3, h4, h5⟩ := hL j hj
      rw [add_plain _ hs, add_plain _ rfl] at h0 h1 h2 h3 h4
      exact ⟨h0, h1, h2, h3, h4, h5⟩
end
/-- What a call comes to, from a register in form. -/
def OutP (R : Rg) (b : Bt) (N : Nat) (T : Rg) : Prop := (N = 0 ∧ gdR T = true ∧ T.p = b ∧ lt3 b R.p = false ∧ lt3 T.a R.a = false) ∨ ((N = 2 ∨ N = 11) ∧ T = zR)
theorem gd_open {R : Rg} (h : gdR R = true) : whB R.p = true ∧ whB R.a = true ∧ lt3 R.p R.a = false ∧ (if noB R.a then decide (R.l.length = 0) else decide (R.l.length ≤ 32)) = true := by
  unfold gdR gdN at h
  rw [Bool.and_eq_true, Bool.and_eq_true, Bool.and_eq_true, Bool.not_eq_true'] at h
  exact ⟨h.1, h.2.1, h.2.2.1, h.2.2.2⟩
theorem gd_make {p a : Bt} {l : List Int} (h1 : whB p = true) (h2 : whB a = true) (h3 : lt3 p a = false) (h4 : (if noB a then decide (l.length = 0) else decide (l.length ≤ 32)) = true) : gdR ⟨p, a, l⟩ = true := by
  show (whB p && (whB a && (!lt3 p a && (if noB a then decide (l.length = 0) else decide (l.length ≤ 32))))) = true
  rw [h1, h2, h3, h4]
  rfl
theorem pr_out {R : Rg} (b : Bt) (hg : gdR R = true) : OutP R b (prN R b) (prR R b) ∧ (prN R b = 0 → (prR R b).a = R.a ∧ (prR R b).l = R.l) := by
  obtain ⟨g1, g2, g3, g4⟩ := gd_open hg
  cases ha : asB b
  · have h := prN_form (r := R) (b := b) (by rw [hg, ha]; rfl)
    exact ⟨.inr ⟨.inl h, prR_no (by omega)⟩, fun h' => by omega⟩
  · cases hl : lt3 R.p b
    · have h := prN_stale (r := R) (b := b) (by rw [hg, ha]; rfl) hl
      exact ⟨.inr ⟨.inr h, prR_no (by omega)⟩, fun h' => by omega⟩
    · have h := prN_ok (r := R) (b := b) (by rw [hg, ha]; rfl) hl
      rw [prR_ok h]
      unfold asB at ha
      rw [Bool.and_eq_true] at ha
      exact ⟨.inl ⟨h, gd_make ha.1 g2 (lt3_asym (lt3_le g3 hl)) g4, rfl, lt3_asym hl, lt3_self _⟩, fun _ => ⟨rfl, rfl⟩⟩
theorem ac_out {R : Rg} (b : Bt) (m : List Int) (hg : gdR R = true) : OutP R b (acN R b m) (acR R b m) := by
  obtain ⟨g1, g2, g3, g4⟩ := gd_open hg
  cases ha : (asB b && decide (m.length ≤ 32))
  · have h := acN_form (r := R) (b := b) (m := m) (by rw [hg, ha]; rfl)
    exact .inr ⟨.inl h, acR_no (by omega)⟩
  · cases hl : lt3 b R.p
    · have h := acN_ok (r := R) (b := b) (m := m) (by rw [hg, ha]; rfl) hl
      rw [acR_ok h]
      rw [Bool.and_eq_true] at ha
      have hb := ha.1
      unfold asB at hb
      rw [Bool.and_eq_true, Bool.not_eq_true'] at hb
      exact .inl ⟨h, gd_make hb.1 hb.1 (lt3_self _) (by rw [hb.2]; exact ha.2), rfl, hl, lt3_le2 g3 hl⟩
    · have h := acN_stale (r := R) (b := b) (m := m) (by rw [hg, ha]; rfl) hl
      exact .inr ⟨.inr h, acR_no (by omega)⟩
end Go.Proofs.Ythpiajnnfchcjaa
