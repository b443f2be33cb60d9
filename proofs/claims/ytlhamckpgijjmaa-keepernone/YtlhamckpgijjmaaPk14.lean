/-
  The chapter's examples: estuarylaw02.alive returns true.
  The cell of each sample: estuarylaw02.cells.
  What the cells of samples come to: least, greatest, last, and each sample counted once. Plain mathematics.
-/
import Derived.Test.YtlhamckpgijjmaaPk13
import Derived.Maps.AppendAt
namespace Go.Proofs.Ytlhamckpgijjmaa
open Go.RowKit Go.Shelf
set_option linter.unusedVariables false

theorem crow2 {W : World} {g : Nat} {x y : Nat → Int} {t : TypeId} (h : Blk W g (CA x ++ CA y) t) : CRow W g 0 [x, y] := by
  intro j c hc i v hv
  rw [h.cell]
  match j with
  | 0 =>
    simp at hc; subst hc
    have hi : i < 74 := by have := (List.getElem?_eq_some_iff.1 hv).1; simpa [CA_size] using this
    rw [Nat.zero_mul, Nat.zero_add, Array.getElem?_append_left (by rw [CA_size]; exact hi)]; simpa using hv
  | 1 =>
    simp at hc; subst hc
    have hi : i < 74 := by have := (List.getElem?_eq_some_iff.1 hv).1; simpa [CA_size] using this
    rw [Nat.one_mul, Nat.zero_add, Array.getElem?_append_right (by rw [CA_size]; omega), CA_size, Nat.add_sub_cancel_left]; simpa using hv
  | n + 2 => simp at hc
theorem wf_one (s q t v : Int) (hs : -9223372036854775808 ≤ s ∧ s ≤ 9223372036854775807) (hq : -9223372036854775808 ≤ q ∧ q ≤ 9223372036854775807) (ht : -9223372036854775808 ≤ t ∧ t ≤ 9223372036854775807) (hv : -9223372036854775808 ≤ v ∧ v ≤ 9223372036854775807) : Wf (oneF s q t v) := by
  have hh := wh_bd v
  have hl := wl_bd v
  refine ⟨?_, fun i hi h2 => ?_⟩
  · have : oneF s q t v 2 = wl v := by unfold oneF; rw [cup_ne _ _ _ _ (by omega)]; rfl
    rw [this]; exact hl
  · unfold oneF cup oneH
    repeat' split
    all_goals omega

end Go.Proofs.Ytlhamckpgijjmaa
namespace Go.Proofs.Ytlhamckpgijjmaa
open Go.RowKit Go.Shelf
set_option linter.unusedVariables false

/-- The cell of a sample by its six numbers. -/
def oneS (s : Nat → Int) : Nat → Int := oneF (s 0) (s 1) (s 3) (s 5)
def Fit (v : Int) : Prop := -9223372036854775808 ≤ v ∧ v ≤ 9223372036854775807
/-- A row of samples in memory. -/
def SRow (W : World) (g off : Nat) (l : List (Nat → Int)) : Prop := ∀ j s, l[j]? = some s → ∀ i, i < 6 → W.cell? ⟨g, off + j * 6 + i, none⟩ = some (.int .i64 (s i)) ∧ Fit (s i)
def flatC (l : List (Nat → Int)) : List Value := l.flatMap fun c => (CA c).toList
theorem flatC_snoc (l : List (Nat → Int)) (c : Nat → Int) : flatC (l ++ [c]) = flatC l ++ (CA c).toList := by simp [flatC]
theorem flatC_len (l : List (Nat → Int)) : (flatC l).length = l.length * 74 := by
  induction l with
  | nil => rfl
  | cons c l ih => simp [flatC] at ih ⊢; rw [ih, CA_size]; omega
theorem flatC_at : ∀ (l : List (Nat → Int)) (j : Nat) (c : Nat → Int), l[j]? = some c → ∀ i, i < 74 → (flatC l)[j * 74 + i]? = (CA c).toList[i]?
  | [], j, c, h, i, hi => by simp at h
  | d :: l, 0, c, h, i, hi => by
    simp at h; subst h
    simp only [flatC, List.flatMap_cons, Nat.zero_mul, Nat.zero_add]
    rw [List.getElem?_append_left (by simp [CA_size]; exact hi)]
  | d :: l, j + 1, c, h, i, hi => by
    simp at h
    have ih := flatC_at l j c h i hi
    simp only [flatC, List.flatMap_cons] at ih ⊢
    rw [List.getElem?_append_right (by simp [CA_size]; omega)]
    rw [← ih]; congr 1; simp [CA_size]; omega
theorem infoCell : (Try.prog.info? 95).map (fun i => (i.zero, i.size, i.bytes)) = some (some (.agg (CA zc)), 74, 592) := by kernel_rfl
section
variable {ops : Array Oper} {rest : List Oper} {o : Oper} {a : Act} {w : World} {Q : Exit → Act → World → Prop}
end
/-- A row that the call made is a row of cells. -/
theorem owns_crow {W : World} {base n : Nat} {v : Value} {l : List (Nat → Int)} (h : W.ownsRow base 95 74 v n (flatC l)) (hv : v ≠ .slice none 0 0) :
    ∃ g cap, v = .slice (some ⟨g, 0, none⟩) n cap ∧ base ≤ g ∧ g < W.heap.size ∧ l.length = n ∧ n ≤ cap ∧ cap ≤ maxLen ∧ CRow W g 0 l := by
  obtain ⟨h1, h2⟩ := h
  rcases h2 with ⟨h2, _⟩ | ⟨g, cap, cur, rfl, hb, hg, hnc, hcm, hcs, ht⟩
  · exact absurd h2 hv
  · have hlen : l.length = n := by rw [flatC_len] at h1; omega
    refine ⟨g, cap, rfl, hb, (Array.getElem?_eq_some_iff.1 hg).1, hlen, hnc, hcm, fun j c hc i u hu => ?_⟩
    have hB : Blk W g cur 95 := hg
    have hi : i < 74 := by have := (List.getElem?_eq_some_iff.1 hu).1; simpa [CA_size] using this
    have hj : j < l.length := (List.getElem?_eq_some_iff.1 hc).1
    have e := flatC_at l j c hc i hi
    rw [hu, ← ht] at e
    rw [hB.cell, Nat.zero_add]
    rw [List.getElem?_take_of_lt (by omega)] at e
    simpa using e

theorem owns_keep {W W' : World} {base e size n : Nat} {v : Value} {xs : List Value} (h : W.ownsRow base e size v n xs) (hb : Below W.heap.size W W') : W'.ownsRow base e size v n xs := by
  refine ⟨h.1, ?_⟩
  rcases h.2 with h2 | ⟨g, cap, cur, h1, h2, hg, h3⟩
  · exact .inl h2
  · exact .inr ⟨g, cap, cur, h1, h2, (hb.block g (Array.getElem?_eq_some_iff.1 hg).1).trans hg, h3⟩

end Go.Proofs.Ytlhamckpgijjmaa
namespace Go.Proofs.Ytlhamckpgijjmaa
open Go.RowKit
set_option linter.unusedVariables false

def hsum (x : Nat → Int) : Nat → Int
  | 0 => 0
  | k + 1 => hsum x k + x (9 + k)
theorem hsum_add (x f : Nat → Int) (b : Nat) : ∀ k, (∀ i, i < k → f (9 + i) = x (9 + i) + if i = b then 1 else 0) → hsum f k = hsum x k + if b < k then 1 else 0
  | 0, _ => by simp [hsum]
  | k + 1, h => by
    have ih := hsum_add x f b k (fun i hi => h i (by omega))
    have e := h k (by omega)
    simp only [hsum]
    rw [ih, e]
    by_cases c : k = b
    · subst c; simp; omega
    · rw [if_neg c]
      by_cases d : b < k
      · rw [if_pos d, if_pos (by omega)]; omega
      · rw [if_neg d, if_neg (by omega)]; omega
theorem hsum_zero (x : Nat → Int) : ∀ k, (∀ i, i < k → x (9 + i) = 0) → hsum x k = 0
  | 0, _ => rfl
  | k + 1, h => by simp only [hsum]; rw [hsum_zero x k (fun i hi => h i (by omega)), h k (by omega)]; rfl

structure Bd (m : List (Nat → Int)) (x : Nat → Int) : Prop where
  cnt : x 0 = (m.length : Int)
  hs : hsum x 65 = (m.length : Int)
  hb : ∀ i, i < 65 → 0 ≤ x (9 + i) ∧ x (9 + i) ≤ (m.length : Int)
  all : ∀ s ∈ m, x 3 ≤ s 5 ∧ s 5 ≤ x 4 ∧ s 3 ≤ x 5
  low : m ≠ [] → ∃ s ∈ m, s 5 = x 3
  high : m ≠ [] → ∃ s ∈ m, s 5 = x 4
  last : m ≠ [] → ∃ s ∈ m, x 5 = s 3 ∧ x 6 = s 0 ∧ x 7 = s 1 ∧ x 8 = s 5

theorem oneS_hist (s : Nat → Int) (i : Nat) (hi : i < 65) : oneS s (9 + i) = if i = Lib.bitLen (s 5).natAbs then 1 else 0 := by
  unfold oneS oneF cup
  by_cases c : i = Lib.bitLen (s 5).natAbs
  · rw [if_pos (by omega), if_pos c]
  · rw [if_neg (by omega), if_neg c]
    unfold oneH
    repeat rw [if_neg (by omega)]
theorem oneS_head (s : Nat → Int) (i : Nat) (hi : i < 9) : oneS s i = oneH (s 0) (s 1) (s 3) (s 5) i := by
  unfold oneS oneF cup; rw [if_neg (by omega)]
theorem bl64 (v : Int) (h : Fit v) : Lib.bitLen v.natAbs < 65 := by have := floorBits.bl_bd v h.1 h.2; omega

theorem bd_one (s : Nat → Int) (h : Fit (s 5)) : Bd [s] (oneS s) := by
  have b := bl64 _ h
  refine ⟨oneS_head s 0 (by omega), ?_, ?_, ?_, fun _ => ⟨s, by simp, ?_⟩, fun _ => ⟨s, by simp, ?_⟩, fun _ => ⟨s, by simp, ?_⟩⟩
  · rw [hsum_add (fun _ => 0) (oneS s) (Lib.bitLen (s 5).natAbs) 65 (fun i hi => by rw [oneS_hist s i hi]; simp), hsum_zero _ _ (fun _ _ => rfl), if_pos b]; rfl
  · intro i hi
    rw [oneS_hist s i hi]; split <;> simp
  · intro t ht
    simp at ht; subst ht
    rw [oneS_head _ 3 (by omega), oneS_head _ 4 (by omega), oneS_head _ 5 (by omega)]
    simp [oneH]
  · rw [oneS_head _ 3 (by omega)]; rfl
  · rw [oneS_head _ 4 (by omega)]; rfl
  · rw [oneS_head _ 5 (by omega), oneS_head _ 6 (by omega), oneS_head _ 7 (by omega), oneS_head _ 8 (by omega)]; exact ⟨rfl, rfl, rfl, rfl⟩

theorem wrap_id (z : Int) (h0 : -9223372036854775808 ≤ z) (h1 : z ≤ 9223372036854775807) : wrap64 z = z := by unfold wrap64; omega

theorem bd_snoc (m : List (Nat → Int)) (x s : Nat → Int) (h : Bd m x) (hm : m.length + 1 ≤ 2000) (hne : m ≠ []) (hf : Fit (s 5)) : Bd (m ++ [s]) (bothF x (oneS s)) := by
  have b := bl64 _ hf
  have hist : ∀ i, i < 65 → bothF x (oneS s) (9 + i) = x (9 + i) + if i = Lib.bitLen (s 5).natAbs then 1 else 0 := by
    intro i hi
    have hx := h.hb i hi
    unfold bothF
    rw [if_neg (by omega), oneS_hist s i hi]
    refine wrap_id _ ?_ ?_ <;> split <;> omega
  have e3 : bothF x (oneS s) 3 = min (x 3) (s 5) := by show min (x 3) (oneS s 3) = _; rw [oneS_head s 3 (by omega)]; rfl
  have e4 : bothF x (oneS s) 4 = max (x 4) (s 5) := by show max (x 4) (oneS s 4) = _; rw [oneS_head s 4 (by omega)]; rfl
  have el : ∀ i, 5 ≤ i → i < 9 → bothF x (oneS s) i = if ltr (s 3) (s 0) (s 1) (s 5) (x 5) (x 6) (x 7) (x 8) then oneS s i else x i := by
    intro i h5 h9
    unfold bothF headF
    rw [if_pos h9, if_neg (by omega), if_neg (by omega), if_neg (by omega), if_neg (by omega), if_neg (by omega), if_pos h9, oneS_head s 5 (by omega), oneS_head s 6 (by omega), oneS_head s 7 (by omega), oneS_head s 8 (by omega)]
    rfl
  refine ⟨?_, ?_, ?_, ?_, ?_, ?_, ?_⟩
  · have : bothF x (oneS s) 0 = wrap64 (x 0 + 1) := by show wrap64 (x 0 + oneS s 0) = _; rw [oneS_head s 0 (by omega)]; rfl
    rw [this, h.cnt, wrap_id _ (by omega) (by omega)]; simp
  · rw [hsum_add x _ _ 65 hist, h.hs, if_pos b]; simp
  · intro i hi
    have hx := h.hb i hi
    rw [hist i hi]
    simp only [List.length_append, List.length_cons, List.length_nil]
    split <;> omega
  · intro t ht
    rw [e3, e4, el 5 (by omega) (by omega)]
    rcases List.mem_append.1 ht with ht | ht
    · have := h.all t ht
      refine ⟨by omega, by omega, ?_⟩
      split
      · rename_i hl
        have : oneS s 5 = s 3 := by rw [oneS_head _ 5 (by omega)]; rfl
        rw [this]
        unfold ltr at hl
        simp only [decide_eq_true_eq] at hl
        omega
      · omega
    · simp at ht; subst ht
      refine ⟨by omega, by omega, ?_⟩
      split
      · have : oneS t 5 = t 3 := by rw [oneS_head _ 5 (by omega)]; rfl
        omega
      · rename_i hl
        unfold ltr at hl
        simp only [decide_eq_true_eq] at hl
        omega
  · intro _
    rw [e3]
    obtain ⟨t, ht, e⟩ := h.low hne
    by_cases c : x 3 ≤ s 5
    · exact ⟨t, by simp [ht], by omega⟩
    · exact ⟨s, by simp, by omega⟩
  · intro _
    rw [e4]
    obtain ⟨t, ht, e⟩ := h.high hne
    by_cases c : s 5 ≤ x 4
    · exact ⟨t, by simp [ht], by omega⟩
    · exact ⟨s, by simp, by omega⟩
  · intro _
    rw [el 5 (by omega) (by omega), el 6 (by omega) (by omega), el 7 (by omega) (by omega), el 8 (by omega) (by omega)]
    obtain ⟨t, ht, e⟩ := h.last hne
    cases hl : ltr (s 3) (s 0) (s 1) (s 5) (x 5) (x 6) (x 7) (x 8)
    · exact ⟨t, by simp [ht], by simpa using e⟩
    · refine ⟨s, by simp, ?_⟩
      simp only [if_true]
      rw [oneS_head _ 5 (by omega), oneS_head _ 6 (by omega), oneS_head _ 7 (by omega), oneS_head _ 8 (by omega)]; exact ⟨rfl, rfl, rfl, rfl⟩

theorem one_not (s : Nat → Int) : eqC (oneS s) zc = false := by
  cases h : eqC (oneS s) zc with
  | false => rfl
  | true =>
    have := (eqC_iff _ _).1 h 0 (by omega)
    rw [oneS_head s 0 (by omega)] at this
    simp [oneH, zc] at this

theorem bd_fold : ∀ (l m : List (Nat → Int)) (o : Option (Nat → Int)), (o = none ∧ m = [] ∨ ∃ x, o = some x ∧ m ≠ [] ∧ Bd m x) → m.length + l.length ≤ 2000 → (∀ s ∈ l, Fit (s 5)) →
    ((l.map oneS).foldl stepJ o = none ∧ m ++ l = []) ∨ ∃ x, (l.map oneS).foldl stepJ o = some x ∧ m ++ l ≠ [] ∧ Bd (m ++ l) x
  | [], m, o, h, _, _ => by simpa using h
  | s :: l, m, o, h, hn, hf => by
    simp at hn
    have hs := hf s (by simp)
    have ih := fun y hy => bd_fold l (m ++ [s]) (some y) (.inr ⟨y, rfl, by simp, hy⟩) (by simp; omega) (fun t ht => hf t (by simp [ht]))
    rcases h with ⟨rfl, rfl⟩ | ⟨x, rfl, hne, hb⟩
    · have := ih (oneS s) (by simpa using bd_one s hs)
      simpa [stepJ_none (one_not s)] using this
    · have := ih (bothF x (oneS s)) (bd_snoc m x s hb (by omega) hne hs)
      simpa [stepJ_some (one_not s)] using this

theorem bd_ones (l : List (Nat → Int)) (hn : l.length ≤ 2000) (hf : ∀ s ∈ l, Fit (s 5)) : Bd l (joinF (l.map oneS)) := by
  rcases bd_fold l [] none (.inl ⟨rfl, rfl⟩) (by simpa using hn) hf with ⟨h1, h2⟩ | ⟨x, h1, h2, h3⟩
  · have : l = [] := by simpa using h2
    subst this
    refine ⟨rfl, ?_, ?_, ?_, ?_, ?_, ?_⟩
    · exact hsum_zero _ _ (fun _ _ => rfl)
    · intro i hi; exact ⟨Int.le_refl _, Int.le_refl _⟩
    · intro s hs; cases hs
    all_goals exact fun h => absurd rfl h
  · have e : joinF (l.map oneS) = x := by unfold joinF joinO; rw [h1]; rfl
    rw [e]; simpa using h3
end Go.Proofs.Ytlhamckpgijjmaa
