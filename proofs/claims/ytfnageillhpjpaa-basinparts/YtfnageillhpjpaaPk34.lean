/-
  The cell of each sample: estuarylaw02.cells.
  What the cells of samples come to: least, greatest, last, and each sample counted once. Plain mathematics.
  Joining cells is associative and commutative; the cells of samples in whatever order and groups. Plain mathematics.
  The cells of samples, joined in whatever groups. Plain mathematics.
  A cell as numbers, and back. Plain mathematics.
  Single operations of a list that yield one value, guarded or not; cells that are the same.
-/
import Derived.Test.YtfnageillhpjpaaPk33
import Derived.Maps.AppendAt
namespace Go.Proofs.Ytfnageillhpjpaa
set_option maxRecDepth 100000
open Go.RowKit Go.Shelf
set_option linter.unusedVariables false

/-- The cell of a sample by its six numbers. -/
def oneS (s : Nat → Int) : Nat → Int := oneF (s 0) (s 1) (s 3) (s 5)
def Fit (v : Int) : Prop := -9223372036854775808 ≤ v ∧ v ≤ 9223372036854775807
/-- A row of samples in memory. -/
def SRow (W : World) (g off : Nat) (l : List (Nat → Int)) : Prop := ∀ j s, l[j]? = some s → ∀ i, i < 6 → W.cell? ⟨g, off + j * 6 + i, none⟩ = some (.int .i64 (s i)) ∧ Fit (s i)
def flatC (l : List (Nat → Int)) : List Value := l.flatMap fun c => (CA c).toList
theorem flatC_snoc (l : List (Nat → Int)) (c : Nat → Int) : flatC (l ++ [c]) = flatC l ++ (CA c).toList := by simp [flatC]
theorem flatC_len (l : List (Nat → Int)) : (flatC l).length = l.length * 74 := by
  induction l with
  | nil => rfl
  | cons c l ih => simp [flatC] at ih ⊢; rw [ih, CA_size]; omega
theorem flatC_at : ∀ (l : List (Nat → Int)) (j : Nat) (c : Nat → Int), l[j]? = some c → ∀ i, i < 74 → (flatC l)[j * 74 + i]? = (CA c).toList[i]?
  | [], j, c, h, i, hi => by simp at h
  | d :: l, 0, c, h, i, hi => by
    simp at h; subst h
    simp only [flatC, List.flatMap_cons, Nat.zero_mul, Nat.zero_add]
    rw [List.getElem?_append_left (by simp [CA_size]; exact hi)]
  | d :: l, j + 1, c, h, i, hi => by
    simp at h
    have ih := flatC_at l j c h i hi
    simp only [flatC, List.flatMap_cons] at ih ⊢
    rw [List.getElem?_append_right (by simp [CA_size]; omega)]
    rw [← ih]; congr 1; simp [CA_size]; omega
theorem infoCell : (Try.prog.info? 54).map (fun i => (i.zero, i.size, i.bytes)) = some (some (.agg (CA zc)), 74, 592) := by kernel_rfl
theorem slice1 (a : Nat → Int) (w : World) : (Instr.buildSlice 117 1 #[(0, .agg (CA a))]).run Try.prog w = .ok (.slice (some ⟨w.heap.size, 0, none⟩) 1 1) (w.alloc (.cells (CA a) 54)) := by kernel_rfl
section
variable {ops : Array Oper} {rest : List Oper} {o : Oper} {a : Act} {w : World} {Q : Exit → Act → World → Prop}
theorem bs1 (hgd : o.guard = none) {parts : Array (Nat × Operand)} (ho : o.op = .buildSlice 117 1 parts) (x : Nat → Int) (hl : parts.map (fun (i, x) => (i, a.eval x)) = #[(0, .agg (CA x))])
    (h : ∀ W', Blk W' w.heap.size (CA x) 54 → Below w.heap.size w W' → W'.heap.size = w.heap.size + 1 → wpList Try.prog ops Q rest (a.put o.dst (.slice (some ⟨w.heap.size, 0, none⟩) 1 1)) W') : wpList Try.prog ops Q (o :: rest) a w := by
  refine wpList_plain hgd fun K hK => ?_
  unfold Oper.wp execOp
  simp only [ho, Sem.run_bind, hl, slice1, Result.andThen_ok]
  exact hK _ _ (h _ (Blk.new _ _ _) ((Below.refl _ _).alloc (Nat.le_refl _) _) (by simp))
end
/-- A row that the call made is a row of cells. -/
theorem owns_crow {W : World} {base n : Nat} {v : Value} {l : List (Nat → Int)} (h : W.ownsRow base 54 74 v n (flatC l)) (hv : v ≠ .slice none 0 0) :
    ∃ g cap, v = .slice (some ⟨g, 0, none⟩) n cap ∧ base ≤ g ∧ g < W.heap.size ∧ l.length = n ∧ n ≤ cap ∧ cap ≤ maxLen ∧ CRow W g 0 l := by
  obtain ⟨h1, h2⟩ := h
  rcases h2 with ⟨h2, _⟩ | ⟨g, cap, cur, rfl, hb, hg, hnc, hcm, hcs, ht⟩
  · exact absurd h2 hv
  · have hlen : l.length = n := by rw [flatC_len] at h1; omega
    refine ⟨g, cap, rfl, hb, (Array.getElem?_eq_some_iff.1 hg).1, hlen, hnc, hcm, fun j c hc i u hu => ?_⟩
    have hB : Blk W g cur 54 := hg
    have hi : i < 74 := by have := (List.getElem?_eq_some_iff.1 hu).1; simpa [CA_size] using this
    have hj : j < l.length := (List.getElem?_eq_some_iff.1 hc).1
    have e := flatC_at l j c hc i hi
    rw [hu, ← ht] at e
    rw [hB.cell, Nat.zero_add]
    rw [List.getElem?_take_of_lt (by omega)] at e
    simpa using e

theorem owns_keep {W W' : World} {base e size n : Nat} {v : Value} {xs : List Value} (h : W.ownsRow base e size v n xs) (hb : Below W.heap.size W W') : W'.ownsRow base e size v n xs := by
  refine ⟨h.1, ?_⟩
  rcases h.2 with h2 | ⟨g, cap, cur, h1, h2, hg, h3⟩
  · exact .inl h2
  · exact .inr ⟨g, cap, cur, h1, h2, (hb.block g (Array.getElem?_eq_some_iff.1 hg).1).trans hg, h3⟩

end Go.Proofs.Ytfnageillhpjpaa
namespace Go.Proofs.Ytfnageillhpjpaa
set_option maxRecDepth 100000
open Go.RowKit
set_option linter.unusedVariables false

def hsum (x : Nat → Int) : Nat → Int
  | 0 => 0
  | k + 1 => hsum x k + x (9 + k)
theorem hsum_add (x f : Nat → Int) (b : Nat) : ∀ k, (∀ i, i < k → f (9 + i) = x (9 + i) + if i = b then 1 else 0) → hsum f k = hsum x k + if b < k then 1 else 0
  | 0, _ => by simp [hsum]
  | k + 1, h => by
    have ih := hsum_add x f b k (fun i hi => h i (by omega))
    have e := h k (by omega)
    simp only [hsum]
    rw [ih, e]
    by_cases c : k = b
    · subst c; simp; omega
    · rw [if_neg c]
      by_cases d : b < k
      · rw [if_pos d, if_pos (by omega)]; omega
      · rw [if_neg d, if_neg (by omega)]; omega
theorem hsum_zero (x : Nat → Int) : ∀ k, (∀ i, i < k → x (9 + i) = 0) → hsum x k = 0
  | 0, _ => rfl
  | k + 1, h => by simp only [hsum]; rw [hsum_zero x k (fun i hi => h i (by omega)), h k (by omega)]; rfl

structure Bd (m : List (Nat → Int)) (x : Nat → Int) : Prop where
  cnt : x 0 = (m.length : Int)
  hs : hsum x 65 = (m.length : Int)
  hb : ∀ i, i < 65 → 0 ≤ x (9 + i) ∧ x (9 + i) ≤ (m.length : Int)
  all : ∀ s ∈ m, x 3 ≤ s 5 ∧ s 5 ≤ x 4 ∧ s 3 ≤ x 5
  low : m ≠ [] → ∃ s ∈ m, s 5 = x 3
  high : m ≠ [] → ∃ s ∈ m, s 5 = x 4
  last : m ≠ [] → ∃ s ∈ m, x 5 = s 3 ∧ x 6 = s 0 ∧ x 7 = s 1 ∧ x 8 = s 5

theorem oneS_hist (s : Nat → Int) (i : Nat) (hi : i < 65) : oneS s (9 + i) = if i = Lib.bitLen (s 5).natAbs then 1 else 0 := by
  unfold oneS oneF cup
  by_cases c : i = Lib.bitLen (s 5).natAbs
  · rw [if_pos (by omega), if_pos c]
  · rw [if_neg (by omega), if_neg c]
    unfold oneH
    repeat rw [if_neg (by omega)]
theorem oneS_head (s : Nat → Int) (i : Nat) (hi : i < 9) : oneS s i = oneH (s 0) (s 1) (s 3) (s 5) i := by
  unfold oneS oneF cup; rw [if_neg (by omega)]
theorem bl64 (v : Int) (h : Fit v) : Lib.bitLen v.natAbs < 65 := by have := floorBits.bl_bd v h.1 h.2; omega

theorem bd_one (s : Nat → Int) (h : Fit (s 5)) : Bd [s] (oneS s) := by
  have b := bl64 _ h
  refine ⟨oneS_head s 0 (by omega), ?_, ?_, ?_, fun _ => ⟨s, by simp, ?_⟩, fun _ => ⟨s, by simp, ?_⟩, fun _ => ⟨s, by simp, ?_⟩⟩
  · rw [hsum_add (fun _ => 0) (oneS s) (Lib.bitLen (s 5).natAbs) 65 (fun i hi => by rw [oneS_hist s i hi]; simp), hsum_zero _ _ (fun _ _ => rfl), if_pos b]; rfl
  · intro i hi
    rw [oneS_hist s i hi]; split <;> simp
  · intro t ht
    simp at ht; subst ht
    rw [oneS_head _ 3 (by omega), oneS_head _ 4 (by omega), oneS_head _ 5 (by omega)]
    simp [oneH]
  · rw [oneS_head _ 3 (by omega)]; rfl
  · rw [oneS_head _ 4 (by omega)]; rfl
  · rw [oneS_head _ 5 (by omega), oneS_head _ 6 (by omega), oneS_head _ 7 (by omega), oneS_head _ 8 (by omega)]; exact ⟨rfl, rfl, rfl, rfl⟩

theorem wrap_id (z : Int) (h0 : -9223372036854775808 ≤ z) (h1 : z ≤ 9223372036854775807) : wrap64 z = z := by unfold wrap64; omega

theorem bd_snoc (m : List (Nat → Int)) (x s : Nat → Int) (h : Bd m x) (hm : m.length + 1 ≤ 2000) (hne : m ≠ []) (hf : Fit (s 5)) : Bd (m ++ [s]) (bothF x (oneS s)) := by
  have b := bl64 _ hf
  have hist : ∀ i, i < 65 → bothF x (oneS s) (9 + i) = x (9 + i) + if i = Lib.bitLen (s 5).natAbs then 1 else 0 := by
    intro i hi
    have hx := h.hb i hi
    unfold bothF
    rw [if_neg (by omega), oneS_hist s i hi]
    refine wrap_id _ ?_ ?_ <;> split <;> omega
  have e3 : bothF x (oneS s) 3 = min (x 3) (s 5) := by show min (x 3) (oneS s 3) = _; rw [oneS_head s 3 (by omega)]; rfl
  have e4 : bothF x (oneS s) 4 = max (x 4) (s 5) := by show max (x 4) (oneS s 4) = _; rw [oneS_head s 4 (by omega)]; rfl
  have el : ∀ i, 5 ≤ i → i < 9 → bothF x (oneS s) i = if ltr (s 3) (s 0) (s 1) (s 5) (x 5) (x 6) (x 7) (x 8) then oneS s i else x i := by
    intro i h5 h9
    unfold bothF headF
    rw [if_pos h9, if_neg (by omega), if_neg (by omega), if_neg (by omega), if_neg (by omega), if_neg (by omega), if_pos h9, oneS_head s 5 (by omega), oneS_head s 6 (by omega), oneS_head s 7 (by omega), oneS_head s 8 (by omega)]
    rfl
  refine ⟨?_, ?_, ?_, ?_, ?_, ?_, ?_⟩
  · have : bothF x (oneS s) 0 = wrap64 (x 0 + 1) := by show wrap64 (x 0 + oneS s 0) = _; rw [oneS_head s 0 (by omega)]; rfl
    rw [this, h.cnt, wrap_id _ (by omega) (by omega)]; simp
  · rw [hsum_add x _ _ 65 hist, h.hs, if_pos b]; simp
  · intro i hi
    have hx := h.hb i hi
    rw [hist i hi]
    simp only [List.length_append, List.length_cons, List.length_nil]
    split <;> omega
  · intro t ht
    rw [e3, e4, el 5 (by omega) (by omega)]
    rcases List.mem_append.1 ht with ht | ht
    · have := h.all t ht
      refine ⟨by omega, by omega, ?_⟩
      split
      · rename_i hl
        have : oneS s 5 = s 3 := by rw [oneS_head _ 5 (by omega)]; rfl
        rw [this]
        unfold ltr at hl
        simp only [decide_eq_true_eq] at hl
        omega
      · omega
    · simp at ht; subst ht
      refine ⟨by omega, by omega, ?_⟩
      split
      · have : oneS t 5 = t 3 := by rw [oneS_head _ 5 (by omega)]; rfl
        omega
      · rename_i hl
        unfold ltr at hl
        simp only [decide_eq_true_eq] at hl
        omega
  · intro _
    rw [e3]
    obtain ⟨t, ht, e⟩ := h.low hne
    by_cases c : x 3 ≤ s 5
    · exact ⟨t, by simp [ht], by omega⟩
    · exact ⟨s, by simp, by omega⟩
  · intro _
    rw [e4]
    obtain ⟨t, ht, e⟩ := h.high hne
    by_cases c : s 5 ≤ x 4
    · exact ⟨t, by simp [ht], by omega⟩
    · exact ⟨s, by simp, by omega⟩
  · intro _
    rw [el 5 (by omega) (by omega), el 6 (by omega) (by omega), el 7 (by omega) (by omega), el 8 (by omega) (by omega)]
    obtain ⟨t, ht, e⟩ := h.last hne
    cases hl : ltr (s 3) (s 0) (s 1) (s 5) (x 5) (x 6) (x 7) (x 8)
    · exact ⟨t, by simp [ht], by simpa using e⟩
    · refine ⟨s, by simp, ?_⟩
      simp only [if_true]
      rw [oneS_head _ 5 (by omega), oneS_head _ 6 (by omega), oneS_head _ 7 (by omega), oneS_head _ 8 (by omega)]; exact ⟨rfl, rfl, rfl, rfl⟩

theorem one_not (s : Nat → Int) : eqC (oneS s) zc = false := by
  cases h : eqC (oneS s) zc with
  | false => rfl
  | true =>
    have := (eqC_iff _ _).1 h 0 (by omega)
    rw [oneS_head s 0 (by omega)] at this
    simp [oneH, zc] at this

theorem bd_fold : ∀ (l m : List (Nat → Int)) (o : Option (Nat → Int)), (o = none ∧ m = [] ∨ ∃ x, o = some x ∧ m ≠ [] ∧ Bd m x) → m.length + l.length ≤ 2000 → (∀ s ∈ l, Fit (s 5)) →
    ((l.map oneS).foldl stepJ o = none ∧ m ++ l = []) ∨ ∃ x, (l.map oneS).foldl stepJ o = some x ∧ m ++ l ≠ [] ∧ Bd (m ++ l) x
  | [], m, o, h, _, _ => by simpa using h
  | s :: l, m, o, h, hn, hf => by
    simp at hn
    have hs := hf s (by simp)
    have ih := fun y hy => bd_fold l (m ++ [s]) (some y) (.inr ⟨y, rfl, by simp, hy⟩) (by simp; omega) (fun t ht => hf t (by simp [ht]))
    rcases h with ⟨rfl, rfl⟩ | ⟨x, rfl, hne, hb⟩
    · have := ih (oneS s) (by simpa using bd_one s hs)
      simpa [stepJ_none (one_not s)] using this
    · have := ih (bothF x (oneS s)) (bd_snoc m x s hb (by omega) hne hs)
      simpa [stepJ_some (one_not s)] using this

theorem bd_ones (l : List (Nat → Int)) (hn : l.length ≤ 2000) (hf : ∀ s ∈ l, Fit (s 5)) : Bd l (joinF (l.map oneS)) := by
  rcases bd_fold l [] none (.inl ⟨rfl, rfl⟩) (by simpa using hn) hf with ⟨h1, h2⟩ | ⟨x, h1, h2, h3⟩
  · have : l = [] := by simpa using h2
    subst this
    refine ⟨rfl, ?_, ?_, ?_, ?_, ?_, ?_⟩
    · exact hsum_zero _ _ (fun _ _ => rfl)
    · intro i hi; exact ⟨Int.le_refl _, Int.le_refl _⟩
    · intro s hs; cases hs
    all_goals exact fun h => absurd rfl h
  · have e : joinF (l.map oneS) = x := by unfold joinF joinO; rw [h1]; rfl
    rw [e]; simpa using h3
end Go.Proofs.Ytfnageillhpjpaa
namespace Go.Proofs.Ytfnageillhpjpaa
set_option maxRecDepth 100000
open Go.RowKit
set_option linter.unusedVariables false

/-- The same cell. -/
def Eqv (a b : Nat → Int) : Prop := ∀ i, i < 74 → a i = b i
theorem Eqv.refl (a : Nat → Int) : Eqv a a := fun _ _ => rfl
theorem Eqv.symm {a b : Nat → Int} (h : Eqv a b) : Eqv b a := fun i hi => (h i hi).symm
theorem Eqv.trans {a b c : Nat → Int} (h : Eqv a b) (k : Eqv b c) : Eqv a c := fun i hi => (h i hi).trans (k i hi)
theorem both_congr {a b c d : Nat → Int} (h : Eqv a c) (k : Eqv b d) : Eqv (bothF a b) (bothF c d) := by
  intro i hi
  unfold bothF headF
  rw [h 0 (by omega), h 1 (by omega), h 2 (by omega), h 3 (by omega), h 4 (by omega), h 5 (by omega), h 6 (by omega), h 7 (by omega), h 8 (by omega), h i hi,
    k 0 (by omega), k 1 (by omega), k 2 (by omega), k 3 (by omega), k 4 (by omega), k 5 (by omega), k 6 (by omega), k 7 (by omega), k 8 (by omega), k i hi]

theorem ltr_irr (a0 a1 a2 a3 : Int) : ltr a0 a1 a2 a3 a0 a1 a2 a3 = false := by unfold ltr; simp
theorem ltr_yes {a0 a1 a2 a3 b0 b1 b2 b3 c0 c1 c2 c3 : Int} (h : ltr a0 a1 a2 a3 b0 b1 b2 b3 = true) (k : ltr b0 b1 b2 b3 c0 c1 c2 c3 = true) : ltr a0 a1 a2 a3 c0 c1 c2 c3 = true := by
  unfold ltr at *; simp only [decide_eq_true_eq] at *; omega
theorem ltr_no {a0 a1 a2 a3 b0 b1 b2 b3 c0 c1 c2 c3 : Int} (h : ltr a0 a1 a2 a3 b0 b1 b2 b3 = false) (k : ltr b0 b1 b2 b3 c0 c1 c2 c3 = false) : ltr a0 a1 a2 a3 c0 c1 c2 c3 = false := by
  unfold ltr at *; simp only [decide_eq_false_iff_not] at *; omega
theorem both_at0 (a b : Nat → Int) : bothF a b 0 = wrap64 (a 0 + b 0) := rfl
theorem both_at1 (a b : Nat → Int) : bothF a b 1 = wh (wv (a 1) (a 2) + wv (b 1) (b 2)) := rfl
theorem both_at2 (a b : Nat → Int) : bothF a b 2 = wl (wv (a 1) (a 2) + wv (b 1) (b 2)) := rfl
theorem both_at3 (a b : Nat → Int) : bothF a b 3 = min (a 3) (b 3) := rfl
theorem both_at4 (a b : Nat → Int) : bothF a b 4 = max (a 4) (b 4) := rfl
theorem both_last (a b : Nat → Int) (i : Nat) (h5 : 5 ≤ i) (h9 : i < 9) : bothF a b i = if ltr (b 5) (b 6) (b 7) (b 8) (a 5) (a 6) (a 7) (a 8) then b i else a i := by
  unfold bothF headF
  rw [if_pos h9, if_neg (by omega), if_neg (by omega), if_neg (by omega), if_neg (by omega), if_neg (by omega), if_pos h9]
theorem both_hist (a b : Nat → Int) (i : Nat) (h9 : 9 ≤ i) : bothF a b i = wrap64 (a i + b i) := by
  unfold bothF; rw [if_neg (by omega)]

theorem wide_congr {x y : Int} (h : x % 340282366920938463463374607431768211456 = y % 340282366920938463463374607431768211456) : wh x = wh y ∧ wl x = wl y := by
  constructor
  · unfold wh; omega
  · unfold wl; omega
theorem wide_back (x : Int) : wv (wh x) (wl x) % 340282366920938463463374607431768211456 = x % 340282366920938463463374607431768211456 := by
  unfold wv wh wl; omega

theorem both_comm (a b : Nat → Int) : Eqv (bothF a b) (bothF b a) := by
  intro i hi
  match i, hi with
  | 0, _ => rw [both_at0, both_at0, Int.add_comm]
  | 1, _ => rw [both_at1, both_at1, Int.add_comm]
  | 2, _ => rw [both_at2, both_at2, Int.add_comm]
  | 3, _ => rw [both_at3, both_at3, Int.min_comm]
  | 4, _ => rw [both_at4, both_at4, Int.max_comm]
  | n + 9, _ => rw [both_hist _ _ _ (by omega), both_hist _ _ _ (by omega), Int.add_comm]
  | 5, _ | 6, _ | 7, _ | 8, _ =>
    rw [both_last _ _ _ (by omega) (by omega), both_last _ _ _ (by omega) (by omega)]
    unfold ltr
    simp only [decide_eq_true_eq]
    split <;> split <;> omega

theorem both_assoc (a b c : Nat → Int) : Eqv (bothF (bothF a b) c) (bothF a (bothF b c)) := by
  intro i hi
  match i, hi with
  | 0, _ => rw [both_at0, both_at0, both_at0, both_at0]; unfold wrap64; omega
  | 1, _ =>
    rw [both_at1 (bothF a b) c, both_at1 a (bothF b c), both_at1 b c, both_at2 b c, both_at1 a b, both_at2 a b]
    have h1 := wide_back (wv (a 1) (a 2) + wv (b 1) (b 2))
    have h2 := wide_back (wv (b 1) (b 2) + wv (c 1) (c 2))
    exact (wide_congr (by omega)).1
  | 2, _ =>
    rw [both_at2 (bothF a b) c, both_at2 a (bothF b c), both_at1 b c, both_at2 b c, both_at1 a b, both_at2 a b]
    have h1 := wide_back (wv (a 1) (a 2) + wv (b 1) (b 2))
    have h2 := wide_back (wv (b 1) (b 2) + wv (c 1) (c 2))
    exact (wide_congr (by omega)).2
  | 3, _ => rw [both_at3, both_at3, both_at3, both_at3]; omega
  | 4, _ => rw [both_at4, both_at4, both_at4, both_at4]; omega
  | n + 9, _ => rw [both_hist _ _ _ (by omega), both_hist _ _ _ (by omega), both_hist _ _ _ (by omega), both_hist _ _ _ (by omega)]; unfold wrap64; omega
  | 5, _ | 6, _ | 7, _ | 8, _ =>
    rw [both_last (bothF a b) c _ (by omega) (by omega), both_last a (bothF b c) _ (by omega) (by omega),
      both_last a b 5 (by omega) (by omega), both_last a b 6 (by omega) (by omega), both_last a b 7 (by omega) (by omega), both_last a b 8 (by omega) (by omega),
      both_last b c 5 (by omega) (by omega), both_last b c 6 (by omega) (by omega), both_last b c 7 (by omega) (by omega), both_last b c 8 (by omega) (by omega)]
    cases h1 : ltr (b 5) (b 6) (b 7) (b 8) (a 5) (a 6) (a 7) (a 8) <;> cases h2 : ltr (c 5) (c 6) (c 7) (c 8) (b 5) (b 6) (b 7) (b 8)
    · simp [h1, ltr_no h2 h1]
    · simp
    · simp [h1, h2]
    · simp [h2, ltr_yes h2 h1]
end Go.Proofs.Ytfnageillhpjpaa
namespace Go.Proofs.Ytfnageillhpjpaa
set_option maxRecDepth 100000
open Go.RowKit
set_option linter.unusedVariables false

/-- What samples come to. -/
def JL (m : List (Nat → Int)) : Nat → Int := joinF (m.map oneS)
theorem eqC_congr {a b c d : Nat → Int} (h : Eqv a c) (k : Eqv b d) : eqC a b = eqC c d := by
  rw [Bool.eq_iff_iff, eqC_iff, eqC_iff]
  exact ⟨fun e i hi => by rw [← h i hi, ← k i hi]; exact e i hi, fun e i hi => by rw [h i hi, k i hi]; exact e i hi⟩
theorem eqC_of {a b : Nat → Int} (h : Eqv a b) : eqC a b = true := (eqC_iff a b).2 h
theorem JL_nil : JL [] = zc := rfl
theorem JL_not (m : List (Nat → Int)) (hn : m.length ≤ 2000) (hf : ∀ s ∈ m, Fit (s 5)) (h : m ≠ []) : eqC (JL m) zc = false := by
  cases e : eqC (JL m) zc with
  | false => rfl
  | true =>
    have := (eqC_iff _ _).1 e 0 (by omega)
    rw [JL, (bd_ones m hn hf).cnt] at this
    have hl : 0 < m.length := List.length_pos_iff.2 h
    simp [zc] at this
    exact absurd this h
theorem stepJ_congr {s t : Option (Nat → Int)} (hs : (s = none ∧ t = none) ∨ ∃ x y, s = some x ∧ t = some y ∧ Eqv x y) (c : Nat → Int) :
    (stepJ s c = none ∧ stepJ t c = none) ∨ ∃ x y, stepJ s c = some x ∧ stepJ t c = some y ∧ Eqv x y := by
  cases hc : eqC c zc with
  | true => rw [stepJ_unit hc, stepJ_unit hc]; exact hs
  | false =>
    rcases hs with ⟨rfl, rfl⟩ | ⟨x, y, rfl, rfl, e⟩
    · rw [stepJ_none hc]; exact .inr ⟨c, c, rfl, rfl, Eqv.refl _⟩
    · rw [stepJ_some hc, stepJ_some hc]; exact .inr ⟨_, _, rfl, rfl, both_congr e (Eqv.refl _)⟩
/-- Some cell, then samples. -/
theorem fold_some (x : Nat → Int) : ∀ (m : List (Nat → Int)) (y : Nat → Int), ∃ z, (m.map oneS).foldl stepJ (some (bothF x y)) = some z ∧ ∃ z', (m.map oneS).foldl stepJ (some y) = some z' ∧ Eqv z (bothF x z')
  | [], y => ⟨_, rfl, _, rfl, Eqv.refl _⟩
  | s :: m, y => by
    simp only [List.map_cons, List.foldl_cons]
    rw [stepJ_some (one_not s), stepJ_some (one_not s)]
    obtain ⟨z, h1, z', h2, e⟩ := fold_some x m (bothF y (oneS s))
    obtain ⟨u, h3, v, h4, e2⟩ : ∃ u, (m.map oneS).foldl stepJ (some (bothF (bothF x y) (oneS s))) = some u ∧ ∃ v, (m.map oneS).foldl stepJ (some (bothF x (bothF y (oneS s)))) = some v ∧ Eqv u v := by
      have : ∀ (m : List (Nat → Int)) (p q : Nat → Int), Eqv p q → ∃ u, (m.map oneS).foldl stepJ (some p) = some u ∧ ∃ v, (m.map oneS).foldl stepJ (some q) = some v ∧ Eqv u v := by
        intro m
        induction m with
        | nil => intro p q e; exact ⟨_, rfl, _, rfl, e⟩
        | cons t m ih =>
          intro p q e
          simp only [List.map_cons, List.foldl_cons]
          rw [stepJ_some (one_not t), stepJ_some (one_not t)]
          exact ih _ _ (both_congr e (Eqv.refl _))
      exact this m _ _ (both_assoc x y (oneS s))
    rw [h1] at h4
    cases h4
    exact ⟨u, h3, z', h2, e2.trans e⟩
theorem joinO_some (m : List (Nat → Int)) (h : m ≠ []) : ∃ x, (m.map oneS).foldl stepJ none = some x ∧ JL m = x := by
  cases e : (m.map oneS).foldl stepJ none with
  | none =>
    exfalso
    cases m with
    | nil => exact h rfl
    | cons s m =>
      simp only [List.map_cons, List.foldl_cons] at e
      rw [stepJ_none (one_not s)] at e
      have : ∀ (m : List (Nat → Int)) (p : Nat → Int), (m.map oneS).foldl stepJ (some p) ≠ none := by
        intro m
        induction m with
        | nil => intro p; simp
        | cons t m ih => intro p; simp only [List.map_cons, List.foldl_cons]; rw [stepJ_some (one_not t)]; exact ih _
      exact this _ _ e
  | some x => exact ⟨x, rfl, by unfold JL joinF joinO; rw [e]; rfl⟩
theorem JL_append (m k : List (Nat → Int)) (hm : m ≠ []) (hk : k ≠ []) : Eqv (JL (m ++ k)) (bothF (JL m) (JL k)) := by
  obtain ⟨x, hx, ex⟩ := joinO_some m hm
  obtain ⟨y, hy, ey⟩ := joinO_some k hk
  cases k with
  | nil => exact absurd rfl hk
  | cons s k =>
    simp only [List.map_cons, List.foldl_cons] at hy
    rw [stepJ_none (one_not s)] at hy
    obtain ⟨z, h1, z', h2, e⟩ := fold_some x k (oneS s)
    rw [hy] at h2
    cases h2
    have : JL (m ++ s :: k) = z := by
      unfold JL joinF joinO
      rw [List.map_append, List.foldl_append, hx, List.map_cons, List.foldl_cons, stepJ_some (one_not s), h1]
      rfl
    rw [this, ex, ey]
    exact e
/-- Two cells joined. -/
theorem joinF2 (a b : Nat → Int) : joinF [a, b] = if eqC a zc then (if eqC b zc then zc else b) else (if eqC b zc then a else bothF a b) := by
  unfold joinF joinO
  simp only [List.foldl_cons, List.foldl_nil]
  cases ha : eqC a zc <;> cases hb : eqC b zc
  · rw [stepJ_none ha, stepJ_some hb]; rfl
  · rw [stepJ_none ha, stepJ_unit hb]; rfl
  · rw [stepJ_unit ha, stepJ_none hb]; rfl
  · rw [stepJ_unit ha, stepJ_unit hb]; rfl
theorem join_groups (m k : List (Nat → Int)) (hn : m.length + k.length ≤ 2000) (hf : ∀ s ∈ m, Fit (s 5)) (hg : ∀ s ∈ k, Fit (s 5)) : Eqv (joinF [JL m, JL k]) (JL (m ++ k)) := by
  rw [joinF2]
  by_cases hm : m = []
  · subst hm
    rw [JL_nil, if_pos (eqC_refl _), List.nil_append]
    by_cases hk : k = []
    · subst hk; rw [JL_nil, if_pos (eqC_refl _)]; exact Eqv.refl _
    · rw [if_neg (by rw [JL_not k (by omega) hg hk]; simp)]; exact Eqv.refl _
  · rw [if_neg (by rw [JL_not m (by omega) hf hm]; simp)]
    by_cases hk : k = []
    · subst hk; rw [JL_nil, if_pos (eqC_refl _), List.append_nil]; exact Eqv.refl _
    · rw [if_neg (by rw [JL_not k (by omega) hg hk]; simp)]; exact (JL_append m k hm hk).symm
theorem JL_one (s : Nat → Int) : JL [s] = oneS s := by
  unfold JL joinF joinO; simp [stepJ_none (one_not s)]
/-- A sample's cell behind what others come to: as if it stood ahead of them. -/
theorem join_back (s : Nat → Int) (k : List (Nat → Int)) (hn : 1 + k.length ≤ 2000) (hs : Fit (s 5)) (hg : ∀ s ∈ k, Fit (s 5)) : Eqv (joinF [JL k, oneS s]) (JL (s :: k)) := by
  rw [joinF2, if_neg (c := eqC (oneS s) zc = true) (by rw [one_not]; simp), if_neg (c := eqC (oneS s) zc = true) (by rw [one_not]; simp)]
  by_cases hk : k = []
  · subst hk; rw [JL_nil, if_pos (eqC_refl _), JL_one]; exact Eqv.refl _
  · rw [if_neg (by rw [JL_not k (by omega) hg hk]; simp)]
    have h := JL_append [s] k (by simp) hk
    rw [JL_one] at h
    exact (both_comm _ _).trans (Eqv.symm h)
theorem join_units (x : Nat → Int) : Eqv (joinF [zc, x, zc]) x := by
  unfold joinF joinO
  simp only [List.foldl_cons, List.foldl_nil]
  rw [stepJ_unit (eqC_refl zc), stepJ_unit (c := zc) (eqC_refl zc)]
  cases h : eqC x zc with
  | true => rw [stepJ_unit h]; exact Eqv.symm ((eqC_iff _ _).1 h)
  | false => rw [stepJ_none h]; exact Eqv.refl _
theorem CA_eqv {a b : Nat → Int} (h : Eqv a b) : CA a = CA b := CA_congr h
theorem wf_JL {m : List (Nat → Int)} (h : ∀ s ∈ m, Fit (s 0) ∧ Fit (s 1) ∧ Fit (s 3) ∧ Fit (s 5)) : Wf (JL m) := wf_joinF _ fun c hc => by
  obtain ⟨s, hs, rfl⟩ := List.mem_map.1 hc
  have := h s hs
  exact wf_one _ _ _ _ this.1 this.2.1 this.2.2.1 this.2.2.2
end Go.Proofs.Ytfnageillhpjpaa
namespace Go.Proofs.Ytfnageillhpjpaa
set_option maxRecDepth 100000
open Go.RowKit
set_option linter.unusedVariables false

abbrev PV := Int × Int
def flatP (ps : List PV) : List Int := ps.flatMap fun p => [p.1, p.2]
theorem flatP_snoc (ps : List PV) (p : PV) : flatP (ps ++ [p]) = flatP ps ++ [p.1, p.2] := by simp [flatP]
theorem flatP_len (ps : List PV) : (flatP ps).length = 2 * ps.length := by
  induction ps with
  | nil => rfl
  | cons p ps ih => simp [flatP] at ih ⊢; omega
theorem flatP_inj : ∀ ps qs : List PV, flatP ps = flatP qs → ps = qs
  | [], [], _ => rfl
  | [], q :: qs, h => by simp [flatP] at h
  | p :: ps, [], h => by simp [flatP] at h
  | p :: ps, q :: qs, h => by
    simp only [flatP, List.flatMap_cons, List.cons_append, List.nil_append, List.cons.injEq] at h
    obtain ⟨h1, h2, h3⟩ := h
    rw [flatP_inj ps qs h3, Prod.ext h1 h2]
theorem flatP_of : ∀ (n : Nat) (l : List Int), l.length = 2 * n → ∃ ps : List PV, ps.length = n ∧ flatP ps = l
  | 0, l, h => ⟨[], rfl, by simp at h; subst h; rfl⟩
  | n + 1, [], h => by simp at h
  | n + 1, [a], h => by simp at h; omega
  | n + 1, a :: b :: l, h => by
    obtain ⟨ps, h1, h2⟩ := flatP_of n l (by simp at h; omega)
    exact ⟨(a, b) :: ps, by simp [h1], by rw [← h2]; rfl⟩
theorem flatP_at : ∀ (ps : List PV) (j : Nat) (p : PV), ps[j]? = some p → (flatP ps)[2 * j]? = some p.1 ∧ (flatP ps)[2 * j + 1]? = some p.2
  | [], j, p, h => by simp at h
  | q :: ps, 0, p, h => by simp at h; subst h; simp [flatP]
  | q :: ps, j + 1, p, h => by
    simp at h
    have := flatP_at ps j p h
    rw [show 2 * (j + 1) = 2 * j + 1 + 1 from by omega]
    simpa [flatP] using this

/-- The pairs of the first k places. -/
def pp (h : Nat → Int) : Nat → List PV
  | 0 => []
  | k + 1 => if h k = 0 then pp h k else pp h k ++ [((k : Int), h k)]
theorem pp_congr {h g : Nat → Int} : ∀ k, (∀ i, i < k → h i = g i) → pp h k = pp g k
  | 0, _ => rfl
  | k + 1, e => by simp only [pp]; rw [e k (by omega), pp_congr k (fun i hi => e i (by omega))]
theorem pp_zero {h : Nat → Int} (a : Nat) : ∀ d, (∀ i, a ≤ i → i < a + d → h i = 0) → pp h (a + d) = pp h a
  | 0, _ => rfl
  | d + 1, e => by
    show pp h (a + d + 1) = _
    simp only [pp]
    rw [if_pos (e (a + d) (by omega) (by omega)), pp_zero a d (fun i h1 h2 => e i h1 (by omega))]
theorem pp_len (h : Nat → Int) : ∀ k, (pp h k).length ≤ k
  | 0 => by simp [pp]
  | k + 1 => by have := pp_len h k; simp only [pp]; split <;> simp <;> omega

abbrev HS := Option (Nat × (Nat → Int))
def stepH (s : HS) (p : PV) : HS := match s with
  | none => none
  | some (nx, h) => if p.1 < (nx : Int) ∨ 65 ≤ p.1 ∨ p.2 = 0 then none else some (p.1.toNat + 1, cup h p.1.toNat p.2)
def foldH (ps : List PV) : HS := ps.foldl stepH (some (0, zc))
theorem foldH_snoc (ps : List PV) (p : PV) : foldH (ps ++ [p]) = stepH (foldH ps) p := by simp [foldH]
theorem foldH_none (ps : List PV) : ps.foldl stepH none = none := by
  induction ps with
  | nil => rfl
  | cons p ps ih => simpa [stepH] using ih
theorem foldH_stuck (ps qs : List PV) (h : foldH ps = none) : foldH (ps ++ qs) = none := by
  unfold foldH at *; rw [List.foldl_append, h]; exact foldH_none qs
theorem stepH_some {nx : Nat} {h : Nat → Int} {p : PV} {nx' : Nat} {h' : Nat → Int} (e : stepH (some (nx, h)) p = some (nx', h')) : (nx : Int) ≤ p.1 ∧ p.1 < 65 ∧ p.2 ≠ 0 ∧ nx' = p.1.toNat + 1 ∧ h' = cup h p.1.toNat p.2 := by
  simp only [stepH] at e
  split at e
  · cases e
  · rename_i hc
    cases e
    exact ⟨by omega, by omega, fun z => hc (.inr (.inr z)), rfl, rfl⟩
theorem snoc_ind {α : Type} {P : List α → Prop} (h0 : P []) (h1 : ∀ l a, P l → P (l ++ [a])) : ∀ l, P l := by
  intro l
  have : ∀ r : List α, P r.reverse := by
    intro r
    induction r with
    | nil => simpa using h0
    | cons a r ih => rw [List.reverse_cons]; exact h1 _ _ ih
  have := this l.reverse
  rwa [List.reverse_reverse] at this
theorem foldH_inv : ∀ ps nx h, foldH ps = some (nx, h) → nx ≤ 65 ∧ (∀ i, nx ≤ i → h i = 0) ∧ pp h nx = ps := by
  refine snoc_ind ?_ ?_
  · intro nx h e
    simp [foldH] at e
    obtain ⟨rfl, rfl⟩ := e
    exact ⟨by omega, fun _ _ => rfl, rfl⟩
  · intro ps p ih nx' h' e
    rw [foldH_snoc] at e
    cases hs : foldH ps with
    | none => rw [hs] at e; cases e
    | some s =>
      obtain ⟨nx, h⟩ := s
      rw [hs] at e
      obtain ⟨h1, h2, h3, rfl, rfl⟩ := stepH_some e
      obtain ⟨i1, i2, i3⟩ := ih nx h hs
      obtain ⟨m, hm⟩ : ∃ m : Nat, p.1 = (m : Int) := ⟨p.1.toNat, by omega⟩
      have hm2 : p.1.toNat = m := by omega
      rw [hm2]
      refine ⟨by omega, fun i hi => by rw [cup, if_neg (by omega)]; exact i2 i (by omega), ?_⟩
      simp only [pp]
      rw [cup, if_pos rfl, if_neg h3, pp_congr (h := cup h m p.2) (g := h) m (fun i hi => by rw [cup, if_neg (by omega)])]
      obtain ⟨d, rfl⟩ : ∃ d, m = nx + d := ⟨m - nx, by omega⟩
      rw [pp_zero nx d (fun i ha hb => i2 i ha), i3, ← hm]
theorem foldH_pp (h : Nat → Int) : ∀ k, k ≤ 65 → ∃ nx g, foldH (pp h k) = some (nx, g) ∧ nx ≤ k ∧ (∀ i, i < k → g i = h i) ∧ ∀ i, k ≤ i → g i = 0
  | 0, _ => ⟨0, zc, rfl, by omega, fun i hi => absurd hi (by omega), fun _ _ => rfl⟩
  | k + 1, hk => by
    obtain ⟨nx, g, e, h1, h2, h3⟩ := foldH_pp h k (by omega)
    simp only [pp]
    by_cases z : h k = 0
    · rw [if_pos z]
      refine ⟨nx, g, e, by omega, fun i hi => ?_, fun i hi => h3 i (by omega)⟩
      by_cases c : i = k
      · subst c; rw [h3 i (by omega), z]
      · exact h2 i (by omega)
    · rw [if_neg z, foldH_snoc, e]
      refine ⟨k + 1, cup g k (h k), ?_, by omega, fun i hi => ?_, fun i hi => by rw [cup, if_neg (by omega)]; exact h3 i (by omega)⟩
      · simp only [stepH]
        rw [if_neg (by omega)]
        rfl
      · by_cases c : i = k
        · subst c; rw [cup, if_pos rfl]
        · rw [cup, if_neg c]; exact h2 i (by omega)

def stepR (s : Option (Nat → Int)) (p : PV) : Option (Nat → Int) := match s with
  | none => none
  | some h => if p.1 < 0 ∨ 64 < p.1 then none else some (cup h p.1.toNat p.2)
def foldR (ps : List PV) : Option (Nat → Int) := ps.foldl stepR (some zc)
theorem foldR_snoc (ps : List PV) (p : PV) : foldR (ps ++ [p]) = stepR (foldR ps) p := by simp [foldR]
theorem foldR_none (ps : List PV) : ps.foldl stepR none = none := by
  induction ps with
  | nil => rfl
  | cons p ps ih => simpa [stepR] using ih
theorem foldR_stuck (ps qs : List PV) (h : foldR ps = none) : foldR (ps ++ qs) = none := by
  unfold foldR at *; rw [List.foldl_append, h]; exact foldR_none qs
theorem foldR_of_H : ∀ ps nx h, foldH ps = some (nx, h) → foldR ps = some h := by
  refine snoc_ind ?_ ?_
  · intro nx h e; simp [foldH] at e; rw [← e.2]; rfl
  · intro ps p ih nx' h' e
    rw [foldH_snoc] at e
    cases hs : foldH ps with
    | none => rw [hs] at e; cases e
    | some s =>
      obtain ⟨nx, h⟩ := s
      rw [hs] at e
      obtain ⟨h1, h2, h3, rfl, rfl⟩ := stepH_some e
      rw [foldR_snoc, ih nx h hs]
      simp only [stepR]
      rw [if_neg (by omega)]

def hdF (c : Nat → Int) (n : Int) : List Int := [c 0, c 1, wrap64 (c 2), c 3, c 4, c 5, c 6, c 7, c 8, n]
/-- The Hist of a cell. -/
def hf (c : Nat → Int) : Nat → Int := fun i => c (9 + i)
/-- A cell as numbers. -/
def numsF (c : Nat → Int) : List Int := hdF c ((pp (hf c) 65).length : Int) ++ flatP (pp (hf c) 65)
def uw (x : Int) : Int := x % 18446744073709551616
def cellOf (l : List Int) (h : Nat → Int) : Nat → Int := fun i => if i < 9 then (if i = 2 then uw (l.getD 2 0) else l.getD i 0) else h (i - 9)
def takeF (l : List Int) (ps : List PV) : Option (Nat → Int) := (foldH ps).map fun s => cellOf l s.2
/-- Numbers that begin with a cell: its pairs are ps, the others more. -/
structure Parts (l : List Int) (ps : List PV) (more : List Int) : Prop where
  len : 10 ≤ l.length
  nine : l.getD 9 0 = (ps.length : Int)
  rest : l.drop 10 = flatP ps ++ more
theorem list10 : ∀ l : List Int, 10 ≤ l.length → l = [l.getD 0 0, l.getD 1 0, l.getD 2 0, l.getD 3 0, l.getD 4 0, l.getD 5 0, l.getD 6 0, l.getD 7 0, l.getD 8 0, l.getD 9 0] ++ l.drop 10
  | a :: b :: c :: d :: e :: f :: g :: h :: i :: j :: l, _ => by simp
  | [], h | [_], h | [_, _], h | [_, _, _], h | [_, _, _, _], h | [_, _, _, _, _], h | [_, _, _, _, _, _], h | [_, _, _, _, _, _, _], h | [_, _, _, _, _, _, _, _], h | [_, _, _, _, _, _, _, _, _], h => by simp at h
theorem wrap_uw (x : Int) (h0 : -9223372036854775808 ≤ x) (h1 : x ≤ 9223372036854775807) : wrap64 (uw x) = x := by unfold wrap64 uw; omega
theorem uw_wrap (x : Int) (h0 : 0 ≤ x) (h1 : x ≤ 18446744073709551615) : uw (wrap64 x) = x := by unfold wrap64 uw; omega
theorem hf_cellOf (l : List Int) (h : Nat → Int) : hf (cellOf l h) = h := by funext i; unfold hf cellOf; rw [if_neg (by omega), Nat.add_sub_cancel_left]
theorem numsF_cellOf (l : List Int) (h : Nat → Int) (h0 : -9223372036854775808 ≤ l.getD 2 0) (h1 : l.getD 2 0 ≤ 9223372036854775807) :
    numsF (cellOf l h) = [l.getD 0 0, l.getD 1 0, l.getD 2 0, l.getD 3 0, l.getD 4 0, l.getD 5 0, l.getD 6 0, l.getD 7 0, l.getD 8 0, ((pp h 65).length : Int)] ++ flatP (pp h 65) := by
  unfold numsF
  rw [hf_cellOf]
  unfold hdF
  have e2 : wrap64 (cellOf l h 2) = l.getD 2 0 := wrap_uw _ h0 h1
  rw [e2]
  rfl
/-- What is taken has the same numbers. -/
theorem take_back {l : List Int} {ps : List PV} {more : List Int} {nx : Nat} {h : Nat → Int} (hp : Parts l ps more) (e : foldH ps = some (nx, h)) (h0 : -9223372036854775808 ≤ l.getD 2 0) (h1 : l.getD 2 0 ≤ 9223372036854775807) : numsF (cellOf l h) ++ more = l := by
  obtain ⟨i1, i2, i3⟩ := foldH_inv ps nx h e
  have : pp h 65 = ps := by
    obtain ⟨d, hd⟩ : ∃ d, 65 = nx + d := ⟨65 - nx, by omega⟩
    rw [hd, pp_zero nx d (fun i ha _ => i2 i ha), i3]
  rw [numsF_cellOf l h h0 h1, this, ← hp.nine, List.append_assoc, ← hp.rest]
  exact (list10 l hp.len).symm
theorem pairs_65 {ps : List PV} {nx : Nat} {h : Nat → Int} (e : foldH ps = some (nx, h)) : ps.length ≤ 65 := by
  obtain ⟨i1, i2, i3⟩ := foldH_inv ps nx h e
  have := pp_len h nx
  rw [i3] at this; omega
/-- A cell's numbers are taken as that cell. -/
theorem take_nums (c : Nat → Int) (hc : Wf c) (more : List Int) : Parts (numsF c ++ more) (pp (hf c) 65) more ∧ ∃ nx h, foldH (pp (hf c) 65) = some (nx, h) ∧ Eqv (cellOf (numsF c ++ more) h) c := by
  obtain ⟨nx, h, e, h1, h2, h3⟩ := foldH_pp (hf c) 65 (by omega)
  refine ⟨⟨?_, ?_, ?_⟩, nx, h, e, fun i hi => ?_⟩
  · simp [numsF, hdF]
  · simp [numsF, hdF]
  · simp [numsF, hdF]
  · unfold cellOf
    by_cases c9 : i < 9
    · rw [if_pos c9]
      match i, c9 with
      | 2, _ => rw [if_pos rfl]; simp only [numsF, hdF, List.cons_append, List.getD_cons_succ, List.getD_cons_zero]; exact uw_wrap _ hc.1.1 hc.1.2
      | 0, _ | 1, _ | 3, _ | 4, _ | 5, _ | 6, _ | 7, _ | 8, _ => simp [numsF, hdF]
    · rw [if_neg c9, h2 (i - 9) (by omega)]
      unfold hf
      rw [show 9 + (i - 9) = i from by omega]
/-- Read, and written again: the same. -/
theorem again_iff {l : List Int} {ps : List PV} {more : List Int} {g : Nat → Int} (hp : Parts l ps more) (e : foldR ps = some g) (h0 : -9223372036854775808 ≤ l.getD 2 0) (h1 : l.getD 2 0 ≤ 9223372036854775807) :
    (numsF (cellOf l g) = l.take (10 + 2 * ps.length) → ∃ nx h, foldH ps = some (nx, h) ∧ ∀ i, i < 65 → h i = g i) ∧ (∀ nx h, foldH ps = some (nx, h) → numsF (cellOf l g) = l.take (10 + 2 * ps.length)) := by
  have ht : l.take (10 + 2 * ps.length) = [l.getD 0 0, l.getD 1 0, l.getD 2 0, l.getD 3 0, l.getD 4 0, l.getD 5 0, l.getD 6 0, l.getD 7 0, l.getD 8 0, (ps.length : Int)] ++ flatP ps := by
    conv => lhs; rw [list10 l hp.len, hp.rest, hp.nine]
    rw [← List.append_assoc]
    exact List.take_left' (by simp [flatP_len]; omega)
  constructor
  · intro h
    rw [numsF_cellOf l g h0 h1, ht] at h
    have h2 : pp g 65 = ps := by
      have := List.append_inj_right' h (by
        have := congrArg List.length h
        simp only [List.length_append, List.length_cons, List.length_nil] at this
        omega)
      exact flatP_inj _ _ this
    obtain ⟨nx, k, e2, h1, h2', h3⟩ := foldH_pp g 65 (by omega)
    rw [h2] at e2
    exact ⟨nx, k, e2, h2'⟩
  · intro nx h e2
    have := foldR_of_H ps nx h e2
    rw [e] at this
    cases this
    have h3 := take_back hp e2 h0 h1
    conv => rhs; rw [← h3]
    rw [List.take_left']
    obtain ⟨i1, i2, i3⟩ := foldH_inv ps nx g e2
    have : pp g 65 = ps := by
      obtain ⟨d, hd⟩ : ∃ d, 65 = nx + d := ⟨65 - nx, by omega⟩
      rw [hd, pp_zero nx d (fun i ha _ => i2 i ha), i3]
    rw [numsF_cellOf l g h0 h1, this]
    simp [flatP_len]
    omega
end Go.Proofs.Ytfnageillhpjpaa
namespace Go.Proofs.Ytfnageillhpjpaa
set_option maxRecDepth 100000
open Go.RowKit
set_option linter.unusedVariables false

section
variable {P : Program} {ops : Array Oper} {rest : List Oper} {o : Oper} {a : Act} {w : World} {Q : Exit → Act → World → Prop}
theorem val_step (hw : Region.wanted o (yielded ops a.tmps) = true) (v : Value) (hr : (execOp a.eval o).run P w = .ok (.value v) w) (h : wpList P ops Q rest (a.put o.dst v) w) : wpList P ops Q (o :: rest) a w := by
  unfold wpList
  rw [if_pos hw]
  left
  unfold Oper.wp
  rw [hr, Oper.upon_value]
  exact h
end
section
variable {ops : Array Oper} {rest : List Oper} {o : Oper} {a : Act} {w : World} {Q : Exit → Act → World → Prop}
theorem eql_same (hw : Region.wanted o (yielded ops a.tmps) = true) {x y : Operand} {t' : TypeId} {c d : Nat → Int} (ho : o.op = .binOp .eql 54 x y t') (hx : a.eval x = .agg (CA c)) (hy : a.eval y = .agg (CA d)) (he : eqC c d = true)
    (h : wpList Try.prog ops Q rest (a.put o.dst (.bool true)) w) : wpList Try.prog ops Q (o :: rest) a w :=
  val_step hw _ (by rw [eq_oper ho hx hy w, he]) h
theorem eql_b (hw : Region.wanted o (yielded ops a.tmps) = true) {x y : Operand} {t' : TypeId} {c d : Nat → Int} {b : Bool} (ho : o.op = .binOp .eql 54 x y t') (hx : a.eval x = .agg (CA c)) (hy : a.eval y = .agg (CA d)) (he : eqC c d = b)
    (h : wpList Try.prog ops Q rest (a.put o.dst (.bool b)) w) : wpList Try.prog ops Q (o :: rest) a w :=
  val_step hw _ (by rw [eq_oper ho hx hy w, he]) h
theorem bd_zero (hw : Region.wanted o (yielded ops a.tmps) = true) (ho : o.op = .build 54 #[])
    (h : wpList Try.prog ops Q rest (a.put o.dst (.agg (CA zc))) w) : wpList Try.prog ops Q (o :: rest) a w :=
  val_step hw _ (bd_run ho built0 (by simp) w) h
end
/-- A cell out of the middle of a row, at one operation. -/
theorem ldm_oper {o : Oper} {ρ : Operand → Value} {x : Operand} {b q : Nat} {c : Nat → Int} {w : World} (ho : o.op = .load 54 x) (hx : ρ x = .pointer (some ⟨b, q, none⟩)) (hr : w.rangeAt b q (CA c).toList) :
    (execOp ρ o).run Try.prog w = .ok (.value (.agg (CA c))) w := by
  unfold execOp
  simp only [ho, hx, Instr.loadAt, Instr.sureAddr, Sem.run_bind, Sem.run_pure, Result.andThen_ok, run_loadVar_mid w b q 54 (CA c).toList _ hr Try.underlying54 rfl (by rw [info_cell c]; simp)]
theorem ldm_step {ops : Array Oper} {rest : List Oper} {o : Oper} {a : Act} {w : World} {Q : Exit → Act → World → Prop} (hw : Region.wanted o (yielded ops a.tmps) = true) {x : Operand} {b q : Nat} {c : Nat → Int} (ho : o.op = .load 54 x) (hr : w.rangeAt b q (CA c).toList) (hx : a.eval x = .pointer (some ⟨b, q, none⟩))
    (h : wpList Try.prog ops Q rest (a.put o.dst (.agg (CA c))) w) : wpList Try.prog ops Q (o :: rest) a w := val_step hw _ (ldm_oper ho hx hr) h
theorem valW {P : Program} {o : Oper} {a : Act} {w : World} {K : Act → World → Prop} {Q : Exit → Act → World → Prop} (d : Option Tmp) (hd : o.dst = d) (v : Value) (hr : (execOp a.eval o).run P w = .ok (.value v) w) (h : K (a.put d v) w) : o.wp P a w K Q := by
  subst hd
  unfold Oper.wp
  rw [hr, Oper.upon_value]
  exact h
theorem crow_keep {W W' : World} {g off : Nat} {l : List (Nat → Int)} (h : CRow W g off l) (hg : g < W.heap.size) (hb : Below W.heap.size W W') : CRow W' g off l := by
  intro j c hc i v hv
  rw [hb.cell (p := ⟨g, _, none⟩) hg]; exact h j c hc i v hv
theorem srow_keep {W W' : World} {g off : Nat} {l : List (Nat → Int)} (h : SRow W g off l) (hg : 0 < l.length → g < W.heap.size) (hb : Below W.heap.size W W') : SRow W' g off l := by
  intro j s hs i hi
  have hl : 0 < l.length := by have := (List.getElem?_eq_some_iff.1 hs).1; omega
  exact ⟨(hb.cell (p := ⟨g, _, none⟩) (hg hl)).trans (h j s hs i hi).1, (h j s hs i hi).2⟩
theorem srow_fit {W : World} {g off : Nat} {l : List (Nat → Int)} (hr : SRow W g off l) : ∀ s ∈ l, Fit (s 5) := fun s hs => by
  obtain ⟨j, hj, e⟩ := List.mem_iff_getElem.1 hs
  exact (hr j s (by rw [List.getElem?_eq_getElem hj, e]) 5 (by omega)).2
theorem srow_wf {W : World} {g off : Nat} {l : List (Nat → Int)} (hr : SRow W g off l) : ∀ c ∈ l.map oneS, Wf c := fun c hc => by
  obtain ⟨s, hs, rfl⟩ := List.mem_map.1 hc
  obtain ⟨j, hj, e⟩ := List.mem_iff_getElem.1 hs
  have f := fun i hi => (hr j s (by rw [List.getElem?_eq_getElem hj, e]) i hi).2
  exact wf_one _ _ _ _ (f 0 (by omega)) (f 1 (by omega)) (f 3 (by omega)) (f 5 (by omega))
theorem join_at (g o off n cap : Nat) (l : List (Nat → Int)) (w : World) (hn : l.length = n) (hb : n ≤ 1000000) (hl : ∀ c ∈ l, Wf c) (ho : 0 < n → o = off) (hr : CRow w g off l) (hg : g < w.heap.size) :
    Calls Try.prog 55 #[.slice (some ⟨g, o, none⟩) n cap] w fun e w' => e = .returned (.agg (CA (joinF l))) ∧ Below w.heap.size w w' := by
  refine join_any g o n cap l w hn hb hl ?_ hg
  intro j c hc
  have := (List.getElem?_eq_some_iff.1 hc).1
  rw [ho (by omega)]
  exact hr j c hc
theorem slc_cell : Try.prog.underlying 117 = some (.slice (Try.prog.elem 117)) := by kernel_rfl
theorem slc_size (w : World) : (sizeOf (Try.prog.elem 117)).run Try.prog w = .ok 74 w := by kernel_rfl
theorem slice3 (a b c : Nat → Int) (w : World) : (Instr.buildSlice 117 3 #[(0, .agg (CA a)), (1, .agg (CA b)), (2, .agg (CA c))]).run Try.prog w = .ok (.slice (some ⟨w.heap.size, 0, none⟩) 3 3) (w.alloc (.cells (CA a ++ CA b ++ CA c) 54)) := by kernel_rfl
theorem bsW3 {o : Oper} {a : Act} {w : World} {K : Act → World → Prop} {Q : Exit → Act → World → Prop} (d : Option Tmp) (hd : o.dst = d) {parts : Array (Nat × Operand)} (ho : o.op = .buildSlice 117 3 parts) (x y z : Nat → Int)
    (hl : parts.map (fun (i, x) => (i, a.eval x)) = #[(0, .agg (CA x)), (1, .agg (CA y)), (2, .agg (CA z))])
    (h : ∀ W', Blk W' w.heap.size (CA x ++ CA y ++ CA z) 54 → Below w.heap.size w W' → K (a.put d (.slice (some ⟨w.heap.size, 0, none⟩) 3 3)) W') : o.wp Try.prog a w K Q := by
  subst hd
  unfold Oper.wp execOp
  simp only [ho, Sem.run_bind, hl, slice3, Result.andThen_ok]
  exact h _ (Blk.new _ _ _) ((Below.refl _ _).alloc (Nat.le_refl _) _)
theorem crow3 {W : World} {g : Nat} {x y z : Nat → Int} {t : TypeId} (h : Blk W g (CA x ++ CA y ++ CA z) t) : CRow W g 0 [x, y, z] := by
  intro j c hc i v hv
  rw [h.cell]
  have hi : i < 74 := by have := (List.getElem?_eq_some_iff.1 hv).1; simpa [CA_size] using this
  match j with
  | 0 =>
    simp at hc; subst hc
    rw [Nat.zero_mul, Nat.zero_add, Array.getElem?_append_left (by rw [Array.size_append, CA_size, CA_size]; omega), Array.getElem?_append_left (by rw [CA_size]; omega)]; simpa using hv
  | 1 =>
    simp at hc; subst hc
    rw [Nat.one_mul, Nat.zero_add, Array.getElem?_append_left (by rw [Array.size_append, CA_size, CA_size]; omega), Array.getElem?_append_right (by rw [CA_size]; omega), CA_size, Nat.add_sub_cancel_left]; simpa using hv
  | 2 =>
    simp at hc; subst hc
    rw [Nat.zero_add, Array.getElem?_append_right (by rw [Array.size_append, CA_size, CA_size]; omega), Array.size_append, CA_size, CA_size, show 2 * 74 + i - (74 + 74) = i from by omega]; simpa using hv
  | n + 3 => simp at hc
end Go.Proofs.Ytfnageillhpjpaa
