/-
  'make' of an empty slice of the call's own, at one operation; rows of three and of two numbers. Nothing here names the program.
  Slices of bytes in memory, and slices of such slices.
  frame's small functions: turn, unturn, read, spell, Sum; bytes.Clone.
-/
import Derived.Test.YtodmhohccclhmaaPk02
import Derived.Test.YtodmhohccclhmaaPk04
import Derived.Laws.MakeOwn
import Derived.Laws.OwnMore
import Derived.Test.YtodmhohccclhmaaRows
import Derived.Test.YtodmhohccclhmaaPk01
import Derived.Laws.BytesArg
import Derived.Lib.Strings
import Derived.Laws.BitsAllLaws
namespace Go.Proofs.Ytodmhohccclhmaa
open Go.RowKit
set_option linter.unusedVariables false

section
variable {P : Program} {ops : Array Oper} {rest : List Oper} {o : Oper} {a : Act} {w : World} {Q : Exit → Act → World → Prop}
theorem below_grown {A w w' : World} (hA : Below A.heap.size A w) (h : w.grownBy w' none) : Below A.heap.size A w' := hA.grown h hA.size (fun r hr => by cases hr)
theorem mk_own (A : World) (hw : Region.wanted o (yielded ops a.tmps) = true) {t : TypeId} {x y : Operand} (ho : o.op = .makeSlice t x y)
    {e : TypeId} {z : Value} {size bytes : Nat} (ht : P.underlying t = some (.slice e)) (hinf : (P.info? e).map (fun i => (i.zero, i.size, i.bytes)) = some (some z, size, bytes))
    {c : Nat} {C : Int} (hx : a.eval x = .int .i64 0) (hy : a.eval y = .int .i64 C) (hC : C = (c : Int)) (hb : bytes * c ≤ 281474976710656) (h63 : c ≤ maxLen) (hA : Below A.heap.size A w)
    (h : ∀ v w', w'.ownsRow A.heap.size e size v 0 [] → v ≠ .slice none 0 0 → Below A.heap.size A w' → Below w.heap.size w w' → wpList P ops Q rest (a.put o.dst v) w') : wpList P ops Q (o :: rest) a w := by
  subst hC
  obtain ⟨i, hi, hz0, hz1, hz2⟩ := info_parts hinf
  obtain ⟨w', hr, ho', hg⟩ := run_make_own (P := P) w A.heap.size t e i z size ht hi hz0 hz1 .i64 .i64 c (by rw [hz2]; exact hb) h63 hA.size
  unfold wpList
  rw [if_pos hw]
  left
  unfold Oper.wp execOp
  simp only [ho, Sem.run_bind, hx, hy, hr, Result.andThen_ok]
  exact h _ _ ho' (by simp) (below_grown hA hg) (below_grown (Below.refl _ _) hg)
end

/-- Numbers in threes, as a row's cells. -/
def flat3 (L : List (Int × Int × Int)) : List Value := L.flatMap fun x => [.int .i64 x.1, .int .i64 x.2.1, .int .i64 x.2.2]
theorem flat3_len (L : List (Int × Int × Int)) : (flat3 L).length = L.length * 3 := by
  induction L with
  | nil => rfl
  | cons x r ih => simp only [flat3, List.flatMap_cons, List.length_append, List.length_cons, List.length_nil] at *; omega
theorem flat3_append (L M : List (Int × Int × Int)) : flat3 (L ++ M) = flat3 L ++ flat3 M := by simp [flat3]
theorem flat3_at (L : List (Int × Int × Int)) : ∀ (j : Nat) (x : Int × Int × Int), L[j]? = some x → (flat3 L)[j * 3]? = some (.int .i64 x.1) ∧ (flat3 L)[j * 3 + 1]? = some (.int .i64 x.2.1) ∧ (flat3 L)[j * 3 + 2]? = some (.int .i64 x.2.2) := by
  induction L with
  | nil => intro j x h; simp at h
  | cons y r ih =>
    intro j x h
    cases j with
    | zero => simp at h; subst h; simp [flat3]
    | succ j =>
      obtain ⟨h1, h2, h3⟩ := ih j x (by simpa using h)
      have e : flat3 (y :: r) = [.int .i64 y.1, .int .i64 y.2.1, .int .i64 y.2.2] ++ flat3 r := by simp [flat3]
      rw [e]
      refine ⟨?_, ?_, ?_⟩
      · rw [List.getElem?_append_right (by simp; omega)]; simpa [Nat.add_mul] using h1
      · rw [List.getElem?_append_right (by simp; omega), show (j + 1) * 3 + 1 - [Value.int .i64 y.1, .int .i64 y.2.1, .int .i64 y.2.2].length = j * 3 + 1 by simp; omega]; exact h2
      · rw [List.getElem?_append_right (by simp; omega), show (j + 1) * 3 + 2 - [Value.int .i64 y.1, .int .i64 y.2.1, .int .i64 y.2.2].length = j * 3 + 2 by simp; omega]; exact h3
theorem flat3_one (L : List (Int × Int × Int)) : ∀ u ∈ flat3 L, u.oneCell' = true := by
  intro u hu
  obtain ⟨x, _, hx⟩ := List.mem_flatMap.1 hu
  simp at hx
  rcases hx with rfl | rfl | rfl <;> rfl
/-- A row of threes in memory. -/
def Row3 (W : World) (g off : Nat) (L : List (Int × Int × Int)) : Prop := ∀ j x, L[j]? = some x →
  W.cell? ⟨g, off + j * 3, none⟩ = some (.int .i64 x.1) ∧ W.cell? ⟨g, off + j * 3 + 1, none⟩ = some (.int .i64 x.2.1) ∧ W.cell? ⟨g, off + j * 3 + 2, none⟩ = some (.int .i64 x.2.2)
theorem row3_keep {W W' : World} {g off : Nat} {L : List (Int × Int × Int)} (h : Row3 W g off L) (hg : 0 < L.length → g < W.heap.size) (hb : Below W.heap.size W W') : Row3 W' g off L := by
  intro j x hx
  have hlt := hg (by have := (List.getElem?_eq_some_iff.1 hx).1; omega)
  obtain ⟨h1, h2, h3⟩ := h j x hx
  exact ⟨(hb.cell (p := ⟨g, _, none⟩) hlt).trans h1, (hb.cell (p := ⟨g, _, none⟩) hlt).trans h2, (hb.cell (p := ⟨g, _, none⟩) hlt).trans h3⟩
/-- Numbers in twos, as a row's cells. -/
def flat2 (L : List (Int × Int)) : List Value := L.flatMap fun x => [.int .i64 x.1, .int .i64 x.2]
theorem flat2_len (L : List (Int × Int)) : (flat2 L).length = L.length * 2 := by
  induction L with
  | nil => rfl
  | cons x r ih => simp only [flat2, List.flatMap_cons, List.length_append, List.length_cons, List.length_nil] at *; omega
theorem flat2_append (L M : List (Int × Int)) : flat2 (L ++ M) = flat2 L ++ flat2 M := by simp [flat2]
theorem flat2_cons (y : Int × Int) (r : List (Int × Int)) : flat2 (y :: r) = [.int .i64 y.1, .int .i64 y.2] ++ flat2 r := by simp [flat2]
theorem flat2_at (L : List (Int × Int)) : ∀ (j : Nat) (x : Int × Int), L[j]? = some x → (flat2 L)[j * 2]? = some (.int .i64 x.1) ∧ (flat2 L)[j * 2 + 1]? = some (.int .i64 x.2) := by
  induction L with
  | nil => intro j x h; simp at h
  | cons y r ih =>
    intro j x h
    cases j with
    | zero => simp at h; subst h; simp [flat2]
    | succ j =>
      obtain ⟨h1, h2⟩ := ih j x (by simpa using h)
      rw [flat2_cons]
      refine ⟨?_, ?_⟩
      · rw [List.getElem?_append_right (by simp; omega)]; simpa [Nat.add_mul] using h1
      · rw [List.getElem?_append_right (by simp; omega), show (j + 1) * 2 + 1 - [Value.int .i64 y.1, .int .i64 y.2].length = j * 2 + 1 by simp; omega]; exact h2
theorem flat2_one (L : List (Int × Int)) : ∀ u ∈ flat2 L, u.oneCell' = true := by
  intro u hu
  obtain ⟨x, _, hx⟩ := List.mem_flatMap.1 hu
  simp at hx
  rcases hx with rfl | rfl <;> rfl
/-- A row of twos in memory. -/
def Row2 (W : World) (g off : Nat) (L : List (Int × Int)) : Prop := ∀ j x, L[j]? = some x → W.cell? ⟨g, off + j * 2, none⟩ = some (.int .i64 x.1) ∧ W.cell? ⟨g, off + j * 2 + 1, none⟩ = some (.int .i64 x.2)
theorem row2_keep {W W' : World} {g off : Nat} {L : List (Int × Int)} (h : Row2 W g off L) (hg : 0 < L.length → g < W.heap.size) (hb : Below W.heap.size W W') : Row2 W' g off L := by
  intro j x hx
  have hlt := hg (by have := (List.getElem?_eq_some_iff.1 hx).1; omega)
  obtain ⟨h1, h2⟩ := h j x hx
  exact ⟨(hb.cell (p := ⟨g, _, none⟩) hlt).trans h1, (hb.cell (p := ⟨g, _, none⟩) hlt).trans h2⟩

/-- What an own slice is, and where its cells lie. -/
theorem own_open {W : World} {base e size n : Nat} {v : Value} {xs : List Value} (h : W.ownsRow base e size v n xs) (hs : 0 < size) :
    xs.length = n * size ∧ ∃ q g cap, v = .slice q n cap ∧ (0 < n → q = some ⟨g, 0, none⟩) ∧ (0 < n → g < W.heap.size) ∧ (0 < n → base ≤ g) ∧ (q = none → n = 0) ∧ n ≤ cap ∧ cap ≤ maxLen ∧ (∀ j u, xs[j]? = some u → W.cell? ⟨g, j, none⟩ = some u) ∧ (v ≠ .slice none 0 0 → q = some ⟨g, 0, none⟩ ∧ base ≤ g ∧ g < W.heap.size) := by
  refine ⟨h.1, ?_⟩
  by_cases hv : v = .slice none 0 0
  · rcases h.2 with ⟨h2, h3⟩ | ⟨g, cap, cur, e, _⟩
    · subst h3
      refine ⟨none, 0, 0, h2, fun h => absurd h (by omega), fun h => absurd h (by omega), fun h => absurd h (by omega), fun _ => rfl, Nat.le_refl _, by unfold maxLen; omega, fun j u hu => ?_, fun h => absurd h2 h⟩
      have hx : xs = [] := List.eq_nil_of_length_eq_zero (by rw [h.1]; omega)
      rw [hx] at hu; simp at hu
    · rw [e] at hv; cases hv
  · obtain ⟨g, cap, rfl, hb, hg, hnc, hcm, hc⟩ := own_cells h hv
    exact ⟨some ⟨g, 0, none⟩, g, cap, rfl, fun _ => rfl, fun _ => hg, fun _ => hb, fun e => (by cases e), hnc, hcm, hc, fun _ => ⟨rfl, hb, hg⟩⟩
/-- The row of an own slice of threes. -/
theorem own_row3 {W : World} {base e n : Nat} {v : Value} {L : List (Int × Int × Int)} (h : W.ownsRow base e 3 v n (flat3 L)) :
    L.length = n ∧ ∃ q g cap, v = .slice q n cap ∧ (0 < n → q = some ⟨g, 0, none⟩) ∧ (0 < n → g < W.heap.size) ∧ (0 < n → base ≤ g) ∧ (q = none → n = 0) ∧ n ≤ cap ∧ cap ≤ maxLen ∧ Row3 W g 0 L ∧ (v ≠ .slice none 0 0 → q = some ⟨g, 0, none⟩ ∧ base ≤ g ∧ g < W.heap.size) := by
  obtain ⟨h1, q, g, cap, h2, h3, h4, h5, h6, h7, h8, hc, h9⟩ := own_open h (by omega)
  rw [flat3_len] at h1
  refine ⟨by omega, q, g, cap, h2, h3, h4, h5, h6, h7, h8, fun j x hx => ?_, h9⟩
  obtain ⟨e1, e2, e3⟩ := flat3_at L j x hx
  rw [Nat.zero_add]
  exact ⟨hc _ _ e1, hc _ _ e2, hc _ _ e3⟩
/-- The row of an own slice of twos. -/
theorem own_row2 {W : World} {base e n : Nat} {v : Value} {L : List (Int × Int)} (h : W.ownsRow base e 2 v n (flat2 L)) :
    L.length = n ∧ ∃ q g cap, v = .slice q n cap ∧ (0 < n → q = some ⟨g, 0, none⟩) ∧ (0 < n → g < W.heap.size) ∧ (0 < n → base ≤ g) ∧ (q = none → n = 0) ∧ n ≤ cap ∧ cap ≤ maxLen ∧ Row2 W g 0 L ∧ (v ≠ .slice none 0 0 → q = some ⟨g, 0, none⟩ ∧ base ≤ g ∧ g < W.heap.size) := by
  obtain ⟨h1, q, g, cap, h2, h3, h4, h5, h6, h7, h8, hc, h9⟩ := own_open h (by omega)
  rw [flat2_len] at h1
  refine ⟨by omega, q, g, cap, h2, h3, h4, h5, h6, h7, h8, fun j x hx => ?_, h9⟩
  obtain ⟨e1, e2⟩ := flat2_at L j x hx
  rw [Nat.zero_add]
  exact ⟨hc _ _ e1, hc _ _ e2⟩
end Go.Proofs.Ytodmhohccclhmaa
namespace Go.Proofs.Ytodmhohccclhmaa
open Go.RowKit
set_option linter.unusedVariables false

def bys (l : List Nat) : List Value := l.map fun x => Value.int .u8 ((x : Nat) : Int)
theorem bys_len (l : List Nat) : (bys l).length = l.length := by simp [bys]
theorem bys_append (l m : List Nat) : bys l ++ bys m = bys (l ++ m) := by simp [bys]
theorem bys_one (l : List Nat) : ∀ u ∈ bys l, u.oneCell' = true := by
  intro u hu
  obtain ⟨x, _, rfl⟩ := List.mem_map.1 hu
  rfl
theorem bys_at (l : List Nat) (j : Nat) : (bys l)[j]? = l[j]?.map fun x => Value.int .u8 ((x : Nat) : Int) := by simp [bys]
theorem bys_set (l : List Nat) (j x : Nat) : (bys l).set j (.int .u8 ((x : Nat) : Int)) = bys (l.set j x) := by simp [bys, List.map_set]
theorem infoByte : (Try.prog.info? 5).map (fun i => (i.zero, i.size, i.bytes)) = some (some (.int .u8 0), 1, 1) := by kernel_rfl
/-- A row of bytes in memory. -/
def BRow (W : World) (g off : Nat) (l : List Nat) : Prop := ∀ j x, l[j]? = some x → W.cell? ⟨g, off + j, none⟩ = some (.int .u8 ((x : Nat) : Int))
theorem brow_keep {W W' : World} {g off : Nat} {l : List Nat} (h : BRow W g off l) (hg : g < W.heap.size) (hb : Below W.heap.size W W') : BRow W' g off l :=
  fun j x hx => (hb.cell (p := ⟨g, off + j, none⟩) hg).trans (h j x hx)
theorem brow_drop {W : World} {g off : Nat} {l : List Nat} (h : BRow W g off l) (k : Nat) : BRow W g (off + k) (l.drop k) := by
  intro j x hx
  rw [List.getElem?_drop] at hx
  rw [Nat.add_assoc]
  exact h (k + j) x hx
theorem brow_take {W : World} {g off : Nat} {l : List Nat} (h : BRow W g off l) (k : Nat) : BRow W g off (l.take k) := by
  intro j x hx
  rw [List.getElem?_take] at hx
  split at hx
  · exact h j x hx
  · cases hx
/-- A slice of these bytes, in memory that W has. -/
def Sl (W : World) (v : Value) (l : List Nat) : Prop := ∃ q cap, v = .slice q l.length cap ∧ l.length ≤ cap ∧ cap ≤ maxLen ∧ (0 < l.length → ∃ g off, q = some ⟨g, off, none⟩ ∧ g < W.heap.size ∧ BRow W g off l)
theorem Sl.keep {W W' : World} {v : Value} {l : List Nat} (h : Sl W v l) (hb : Below W.heap.size W W') : Sl W' v l := by
  obtain ⟨q, cap, rfl, h1, h2, h3⟩ := h
  refine ⟨q, cap, rfl, h1, h2, fun h0 => ?_⟩
  obtain ⟨g, off, rfl, hg, hr⟩ := h3 h0
  exact ⟨g, off, rfl, Nat.lt_of_lt_of_le hg hb.size, brow_keep hr hg hb⟩
theorem Sl.open {W : World} {v : Value} {l : List Nat} (h : Sl W v l) : ∃ q cap g off, v = .slice q l.length cap ∧ l.length ≤ cap ∧ cap ≤ 9223372036854775807 ∧ (0 < l.length → q = some ⟨g, off, none⟩) ∧ (0 < l.length → g < W.heap.size) ∧ BRow W g off l := by
  obtain ⟨q, cap, rfl, h1, h2, h3⟩ := h
  by_cases h0 : 0 < l.length
  · obtain ⟨g, off, rfl, hg, hr⟩ := h3 h0
    exact ⟨_, cap, g, off, rfl, h1, h2, fun _ => rfl, fun _ => hg, hr⟩
  · have : l = [] := List.eq_nil_of_length_eq_zero (by omega)
    subst this
    exact ⟨q, cap, 0, 0, rfl, h1, h2, fun h => absurd h h0, fun h => absurd h h0, fun j x hx => by simp at hx⟩
theorem Sl.len {W : World} {q : Option Addr} {n cap : Nat} {l : List Nat} (h : Sl W (.slice q n cap) l) : l.length = n ∧ n ≤ cap ∧ cap ≤ 9223372036854775807 := by
  obtain ⟨q', cap', e, h1, h2, _⟩ := h
  cases e
  exact ⟨rfl, h1, h2⟩
theorem sl_nil (W : World) : Sl W (.slice none 0 0) [] := ⟨none, 0, rfl, Nat.le_refl _, by unfold maxLen; omega, fun h => absurd h (by simp)⟩
theorem sl_of {W : World} {q : Option Addr} {n cap g off : Nat} {l : List Nat} (hn : l.length = n) (hc : n ≤ cap) (hm : cap ≤ maxLen) (hp : 0 < n → q = some ⟨g, off, none⟩) (hg : 0 < n → g < W.heap.size) (hr : BRow W g off l) : Sl W (.slice q n cap) l := by
  subst hn
  exact ⟨q, cap, rfl, hc, hm, fun h0 => ⟨g, off, hp h0, hg h0, hr⟩⟩
theorem own_sl {W : World} {base n : Nat} {v : Value} {l : List Nat} (h : W.ownsRow base 5 1 v n (bys l)) : l.length = n ∧ Sl W v l := by
  obtain ⟨h1, q, g, cap, rfl, hp, hg, _, _, hc, hm, hr, _⟩ := own_open h (by omega)
  rw [bys_len, Nat.mul_one] at h1
  exact ⟨h1, sl_of h1 hc hm hp hg (fun j x hx => by rw [Nat.zero_add]; exact hr j _ (by rw [bys_at, hx]; rfl))⟩
/-- What append asks of its source. -/
theorem Sl.src {W : World} {v : Value} {l : List Nat} (h : Sl W v l) : ∃ q cap, v = .slice q l.length cap ∧ (q = none → l.length = 0) ∧ (∀ ad, q = some ad → ∀ j u, (bys l)[j]? = some u → W.cell? (ad.add j) = some u) := by
  obtain ⟨q, cap, rfl, h1, h2, h3⟩ := h
  refine ⟨q, cap, rfl, fun hq => ?_, fun ad had j u hu => ?_⟩
  · by_cases h0 : 0 < l.length
    · obtain ⟨g, off, e, _⟩ := h3 h0
      rw [hq] at e; cases e
    · omega
  · rw [bys_at] at hu
    cases hx : l[j]? with
    | none => rw [hx] at hu; simp at hu
    | some x =>
      rw [hx] at hu
      obtain ⟨g, off, e, _, hr⟩ := h3 (by have := (List.getElem?_eq_some_iff.1 hx).1; omega)
      rw [had] at e
      cases e
      rw [Addr.add_mid, hr j x hx]
      simpa using hu
/-- The string of bytes. -/
def strB (l : List Nat) : ByteArray := strOfNums (l.map fun (x : Nat) => ((x : Nat) : Int))
theorem strB_inj {l m : List Nat} (hl : Byt l) (hm : Byt m) (h : strB l = strB m) : l = m := by
  have h1 := congrArg (fun s => s.data.toList) h
  simp only [strB, strOfNums_data, List.map_map] at h1
  have h2 := congrArg (List.map UInt8.toNat) h1
  simp only [List.map_map] at h2
  have key : ∀ l : List Nat, Byt l → l.map (UInt8.toNat ∘ ((fun n : Int => UInt8.ofNat n.toNat) ∘ fun (x : Nat) => ((x : Nat) : Int))) = l := by
    intro l hl
    induction l with
    | nil => rfl
    | cons b r ih =>
      rw [List.map_cons, ih (fun x hx => hl x (List.mem_cons_of_mem _ hx))]
      congr 1
      have := hl b (List.mem_cons_self ..)
      simp
      omega
  rwa [key l hl, key m hm] at h2
theorem strB_iff {l m : List Nat} (hl : Byt l) (hm : Byt m) : strB l = strB m ↔ l = m := ⟨strB_inj hl hm, fun h => by rw [h]⟩
theorem strB_app (l m : List Nat) : strB l ++ strB m = strB (l ++ m) := by
  apply ByteArray.ext
  simp [strB, strOfNums]
/-- A row of values in memory. -/
def VRow (W : World) (g off : Nat) (vs : List Value) : Prop := ∀ j x, vs[j]? = some x → W.cell? ⟨g, off + j, none⟩ = some x
/-- A slice of slices of bytes. -/
structure Ls (W : World) (v : Value) (vs : List Value) (ls : List (List Nat)) : Prop where
  len : vs.length = ls.length
  row : ∃ q cap, v = .slice q vs.length cap ∧ vs.length ≤ cap ∧ cap ≤ maxLen ∧ (0 < vs.length → ∃ g off, q = some ⟨g, off, none⟩ ∧ g < W.heap.size ∧ VRow W g off vs)
  each : ∀ (j : Nat) (x : Value) (l : List Nat), vs[j]? = some x → ls[j]? = some l → Sl W x l
theorem Ls.keep {W W' : World} {v : Value} {vs : List Value} {ls : List (List Nat)} (h : Ls W v vs ls) (hb : Below W.heap.size W W') : Ls W' v vs ls := by
  obtain ⟨h1, ⟨q, cap, rfl, h2, h3, h4⟩, h5⟩ := h
  refine ⟨h1, ⟨q, cap, rfl, h2, h3, fun h0 => ?_⟩, fun j x l hx hl => (h5 j x l hx hl).keep hb⟩
  obtain ⟨g, off, rfl, hg, hr⟩ := h4 h0
  exact ⟨g, off, rfl, Nat.lt_of_lt_of_le hg hb.size, fun j x hx => (hb.cell (p := ⟨g, off + j, none⟩) hg).trans (hr j x hx)⟩
theorem Ls.open {W : World} {v : Value} {vs : List Value} {ls : List (List Nat)} (h : Ls W v vs ls) : ∃ q cap g off, v = .slice q ls.length cap ∧ ls.length ≤ cap ∧ cap ≤ 9223372036854775807 ∧ (0 < ls.length → q = some ⟨g, off, none⟩) ∧ (0 < ls.length → g < W.heap.size) ∧ VRow W g off vs := by
  obtain ⟨h1, ⟨q, cap, rfl, h2, h3, h4⟩, h5⟩ := h
  rw [h1] at h2 h4 ⊢
  by_cases h0 : 0 < ls.length
  · obtain ⟨g, off, rfl, hg, hr⟩ := h4 h0
    exact ⟨_, cap, g, off, rfl, h2, h3, fun _ => rfl, fun _ => hg, hr⟩
  · have : vs = [] := List.eq_nil_of_length_eq_zero (by omega)
    subst this
    exact ⟨q, cap, 0, 0, rfl, h2, h3, fun h => absurd h h0, fun h => absurd h h0, fun j x hx => by simp at hx⟩
theorem ls_nil (W : World) : Ls W (.slice none 0 0) [] [] := ⟨rfl, ⟨none, 0, rfl, Nat.le_refl _, by unfold maxLen; omega, fun h => absurd h (by simp)⟩, fun j x l h => by simp at h⟩
/-- Strings that differ, as the walk compares them. -/
theorem strB_ne {a b : List Nat} (h : strB a ≠ strB b) : ((strB a).toList == (strB b).toList) = false := by
  apply beq_false_of_ne
  intro e
  rw [Lib.toList_data, Lib.toList_data] at e
  exact h (ByteArray.ext (Array.toList_inj.1 e))
theorem strB_len (l : List Nat) : (strB l).size = l.length := by
  simp [strB, strOfNums, ByteArray.size]
theorem Sl.slice {W : World} {v : Value} {l : List Nat} (h : Sl W v l) : ∃ q n c, v = .slice q n c := by
  obtain ⟨q, cap, e, -⟩ := h
  exact ⟨q, _, cap, e⟩
end Go.Proofs.Ytodmhohccclhmaa
namespace Go.Proofs.Ytodmhohccclhmaa
open Go.RowKit
set_option linter.unusedVariables false

theorem i64_xor0 (x : Int) (h0 : -9223372036854775808 ≤ x) (h1 : x ≤ 9223372036854775807) : bits .xor .i64 x 0 = x := by
  show IntKind.i64.wrap ((BitVec.ofInt 64 x ^^^ BitVec.ofInt 64 0).toNat : Int) = _
  rw [show BitVec.ofInt 64 0 = 0#64 from by decide, BitVec.xor_zero, BitVec.toNat_ofInt]
  simp [IntKind.wrap, IntKind.bits, IntKind.signed]
  omega
theorem i64_xor1 (x : Int) (h0 : -9223372036854775808 ≤ x) (h1 : x ≤ 9223372036854775807) : bits .xor .i64 x (-1) = -1 - x := by
  show IntKind.i64.wrap ((BitVec.ofInt 64 x ^^^ BitVec.ofInt 64 (-1)).toNat : Int) = _
  rw [show BitVec.ofInt 64 (-1) = BitVec.allOnes 64 from by decide, BitVec.xor_allOnes, BitVec.toNat_not, BitVec.toNat_ofInt]
  simp [IntKind.wrap, IntKind.bits, IntKind.signed]
  omega
theorem turned (n : Int) (h0 : -9223372036854775808 ≤ n) (h1 : n ≤ 9223372036854775807) : IntKind.u64.wrap (bits .xor .i64 (wrap64 (n * 2)) (n / 9223372036854775808)) = ((zig n : Nat) : Int) := by
  have hw : -9223372036854775808 ≤ wrap64 (n * 2) ∧ wrap64 (n * 2) ≤ 9223372036854775807 := by unfold wrap64; omega
  unfold zig
  by_cases c : n < 0
  · have e : n / 9223372036854775808 = -1 := by omega
    rw [e, i64_xor1 _ hw.1 hw.2, if_pos c, IntKind.wrap_u64]
    unfold wrap64; omega
  · have e : n / 9223372036854775808 = 0 := by omega
    rw [e, i64_xor0 _ hw.1 hw.2, if_neg c, IntKind.wrap_u64]
    unfold wrap64; omega
theorem unturned (u : Nat) (h : u < 18446744073709551616) : bits .xor .i64 ((u : Int) / 2) (wrap64 (-wrap64 (bits .and .u64 (u : Int) 1))) = unz u := by
  have e : bits .and .u64 (u : Int) 1 = ((u % 2 : Nat) : Int) := by
    rw [← nat_mask1]
    exact u64_and_nat u 1 h (by omega)
  rw [e]
  unfold unz
  rcases Nat.mod_two_eq_zero_or_one u with c | c
  · rw [c, if_neg (by omega), show wrap64 (-wrap64 ((0 : Nat) : Int)) = 0 from by unfold wrap64; omega, i64_xor0 _ (by omega) (by omega)]
    omega
  · rw [c, if_pos rfl, show wrap64 (-wrap64 ((1 : Nat) : Int)) = -1 from by unfold wrap64; omega, i64_xor1 _ (by omega) (by omega)]
    omega
theorem read_step (l : List Nat) (k x : Nat) (hk : k < 8) (hb : Byt l) (hx : l[k]? = some x) : bits .or .u64 ((val (l.take k) : Nat) : Int) (IntKind.u64.wrap (((x : Nat) : Int) * 2 ^ (8 * k))) = ((val (l.take (k + 1)) : Nat) : Int) := by
  have hxb := hb.at hx
  have hkl : k < l.length := (List.getElem?_eq_some_iff.1 hx).1
  have hlen : (l.take k).length = k := by rw [List.length_take]; omega
  have hv := val_lt (l.take k) (hb.take k)
  rw [hlen, show (256 : Nat) = 2 ^ 8 from rfl, ← Nat.pow_mul] at hv
  have h56 : 2 ^ (8 * k) ≤ 2 ^ 56 := Nat.pow_le_pow_right (by decide) (by omega)
  have e1 : (((x : Nat) : Int) * 2 ^ (8 * k)) = ((x * 2 ^ (8 * k) : Nat) : Int) := by rw [Int.natCast_mul, Int.natCast_pow]; rfl
  have hlt : x * 2 ^ (8 * k) < 18446744073709551616 := by
    have : x * 2 ^ (8 * k) ≤ 255 * 2 ^ 56 := Nat.mul_le_mul (by omega) h56
    omega
  rw [e1, IntKind.wrap_u64, Int.emod_eq_of_lt (by omega) (by omega), u64_or_nat _ _ (by omega) hlt, Nat.or_comm, nat_join (8 * k) _ _ (Nat.mul_mod_left ..) hv]
  congr 1
  rw [List.take_add_one, hx, Option.toList_some, val_snoc, hlen, show (256 : Nat) = 2 ^ 8 from rfl, ← Nat.pow_mul]
  omega
section
variable {ops : Array Oper} {rest : List Oper} {o : Oper} {a : Act} {w : World} {Q : Exit → Act → World → Prop}
/-- A slice of bytes, just made. -/
theorem own_newB (w : World) (xs : List Nat) (n : Nat) (hn : xs.length = n) (hm : n ≤ maxLen) (base : Nat) (hb : base ≤ w.heap.size) : (w.alloc (.cells (bys xs).toArray 5)).ownsRow base 5 1 (.slice (some ⟨w.heap.size, 0, none⟩) n n) n (bys xs) := by
  refine ⟨by rw [bys_len, hn, Nat.mul_one], .inr ⟨w.heap.size, n, (bys xs).toArray, rfl, hb, ?_, Nat.le_refl _, hm, ?_, ?_⟩⟩
  · show (w.heap.push _)[w.heap.size]? = _; simp
  · simp [bys_len, hn]
  · rw [Nat.mul_one, ← hn, ← bys_len xs]; simp
end
theorem spell_step (u k : Nat) (hu : u < 18446744073709551616) : ((u : Nat) : Int) / 2 ^ (8 * k) % 256 = ((u / 256 ^ k % 256 : Nat) : Int) := by
  rw [Int.natCast_emod, Int.natCast_ediv, Int.natCast_pow, show (256 : Nat) = 2 ^ 8 from rfl, Int.natCast_pow, ← Int.pow_mul]
  rfl

theorem sum_step (s x : Nat) (hs : s < 4294967296) (hx : x < 256) : bits .xor .u32 ((s : Nat) : Int) ((x : Nat) : Int) * 16777619 % 4294967296 = ((stp s x : Nat) : Int) := by
  rw [u32_xor_nat s x hs (by omega), stp]
  omega
theorem flat_take (ls : List (List Nat)) (k : Nat) (l : List Nat) (h : ls[k]? = some l) : (ls.take (k + 1)).flatten = (ls.take k).flatten ++ l := by
  rw [List.take_add_one, h, Option.toList_some, List.flatten_append]; simp

end Go.Proofs.Ytodmhohccclhmaa
