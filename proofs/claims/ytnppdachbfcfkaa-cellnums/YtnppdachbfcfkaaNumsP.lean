/-
  A cell as numbers, and back. Plain mathematics.
-/
import Derived.Test.YtnppdachbfcfkaaAssoc
namespace Go.Proofs.Ytnppdachbfcfkaa
open Go.RowKit
set_option linter.unusedVariables false

abbrev PV := Int × Int
def flatP (ps : List PV) : List Int := ps.flatMap fun p => [p.1, p.2]
theorem flatP_snoc (ps : List PV) (p : PV) : flatP (ps ++ [p]) = flatP ps ++ [p.1, p.2] := by simp [flatP]
theorem flatP_len (ps : List PV) : (flatP ps).length = 2 * ps.length := by
  induction ps with
  | nil => rfl
  | cons p ps ih => simp [flatP] at ih ⊢; omega
theorem flatP_inj : ∀ ps qs : List PV, flatP ps = flatP qs → ps = qs
  | [], [], _ => rfl
  | [], q :: qs, h => by simp [flatP] at h
  | p :: ps, [], h => by simp [flatP] at h
  | p :: ps, q :: qs, h => by
    simp only [flatP, List.flatMap_cons, List.cons_append, List.nil_append, List.cons.injEq] at h
    obtain ⟨h1, h2, h3⟩ := h
    rw [flatP_inj ps qs h3, Prod.ext h1 h2]
theorem flatP_of : ∀ (n : Nat) (l : List Int), l.length = 2 * n → ∃ ps : List PV, ps.length = n ∧ flatP ps = l
  | 0, l, h => ⟨[], rfl, by simp at h; subst h; rfl⟩
  | n + 1, [], h => by simp at h
  | n + 1, [a], h => by simp at h; omega
  | n + 1, a :: b :: l, h => by
    obtain ⟨ps, h1, h2⟩ := flatP_of n l (by simp at h; omega)
    exact ⟨(a, b) :: ps, by simp [h1], by rw [← h2]; rfl⟩
theorem flatP_at : ∀ (ps : List PV) (j : Nat) (p : PV), ps[j]? = some p → (flatP ps)[2 * j]? = some p.1 ∧ (flatP ps)[2 * j + 1]? = some p.2
  | [], j, p, h => by simp at h
  | q :: ps, 0, p, h => by simp at h; subst h; simp [flatP]
  | q :: ps, j + 1, p, h => by
    simp at h
    have := flatP_at ps j p h
    rw [show 2 * (j + 1) = 2 * j + 1 + 1 from by omega]
    simpa [flatP] using this

/-- The pairs of the first k places. -/
def pp (h : Nat → Int) : Nat → List PV
  | 0 => []
  | k + 1 => if h k = 0 then pp h k else pp h k ++ [((k : Int), h k)]
theorem pp_congr {h g : Nat → Int} : ∀ k, (∀ i, i < k → h i = g i) → pp h k = pp g k
  | 0, _ => rfl
  | k + 1, e => by simp only [pp]; rw [e k (by omega), pp_congr k (fun i hi => e i (by omega))]
theorem pp_zero {h : Nat → Int} (a : Nat) : ∀ d, (∀ i, a ≤ i → i < a + d → h i = 0) → pp h (a + d) = pp h a
  | 0, _ => rfl
  | d + 1, e => by
    show pp h (a + d + 1) = _
    simp only [pp]
    rw [if_pos (e (a + d) (by omega) (by omega)), pp_zero a d (fun i h1 h2 => e i h1 (by omega))]
theorem pp_len (h : Nat → Int) : ∀ k, (pp h k).length ≤ k
  | 0 => by simp [pp]
  | k + 1 => by have := pp_len h k; simp only [pp]; split <;> simp <;> omega

abbrev HS := Option (Nat × (Nat → Int))
def stepH (s : HS) (p : PV) : HS := match s with
  | none => none
  | some (nx, h) => if p.1 < (nx : Int) ∨ 65 ≤ p.1 ∨ p.2 = 0 then none else some (p.1.toNat + 1, cup h p.1.toNat p.2)
def foldH (ps : List PV) : HS := ps.foldl stepH (some (0, zc))
theorem foldH_snoc (ps : List PV) (p : PV) : foldH (ps ++ [p]) = stepH (foldH ps) p := by simp [foldH]
theorem foldH_none (ps : List PV) : ps.foldl stepH none = none := by
  induction ps with
  | nil => rfl
  | cons p ps ih => simpa [stepH] using ih
theorem foldH_stuck (ps qs : List PV) (h : foldH ps = none) : foldH (ps ++ qs) = none := by
  unfold foldH at *; rw [List.foldl_append, h]; exact foldH_none qs
theorem stepH_some {nx : Nat} {h : Nat → Int} {p : PV} {nx' : Nat} {h' : Nat → Int} (e : stepH (some (nx, h)) p = some (nx', h')) : (nx : Int) ≤ p.1 ∧ p.1 < 65 ∧ p.2 ≠ 0 ∧ nx' = p.1.toNat + 1 ∧ h' = cup h p.1.toNat p.2 := by
  simp only [stepH] at e
  split at e
  · cases e
  · rename_i hc
    cases e
    exact ⟨by omega, by omega, fun z => hc (.inr (.inr z)), rfl, rfl⟩
theorem snoc_ind {α : Type} {P : List α → Prop} (h0 : P []) (h1 : ∀ l a, P l → P (l ++ [a])) : ∀ l, P l := by
  intro l
  have : ∀ r : List α, P r.reverse := by
    intro r
    induction r with
    | nil => simpa using h0
    | cons a r ih => rw [List.reverse_cons]; exact h1 _ _ ih
  have := this l.reverse
  rwa [List.reverse_reverse] at this
theorem foldH_inv : ∀ ps nx h, foldH ps = some (nx, h) → nx ≤ 65 ∧ (∀ i, nx ≤ i → h i = 0) ∧ pp h nx = ps := by
  refine snoc_ind ?_ ?_
  · intro nx h e
    simp [foldH] at e
    obtain ⟨rfl, rfl⟩ := e
    exact ⟨by omega, fun _ _ => rfl, rfl⟩
  · intro ps p ih nx' h' e
    rw [foldH_snoc] at e
    cases hs : foldH ps with
    | none => rw [hs] at e; cases e
    | some s =>
      obtain ⟨nx, h⟩ := s
      rw [hs] at e
      obtain ⟨h1, h2, h3, rfl, rfl⟩ := stepH_some e
      obtain ⟨i1, i2, i3⟩ := ih nx h hs
      obtain ⟨m, hm⟩ : ∃ m : Nat, p.1 = (m : Int) := ⟨p.1.toNat, by omega⟩
      have hm2 : p.1.toNat = m := by omega
      rw [hm2]
      refine ⟨by omega, fun i hi => by rw [cup, if_neg (by omega)]; exact i2 i (by omega), ?_⟩
      simp only [pp]
      rw [cup, if_pos rfl, if_neg h3, pp_congr (h := cup h m p.2) (g := h) m (fun i hi => by rw [cup, if_neg (by omega)])]
      obtain ⟨d, rfl⟩ : ∃ d, m = nx + d := ⟨m - nx, by omega⟩
      rw [pp_zero nx d (fun i ha hb => i2 i ha), i3, ← hm]
theorem foldH_pp (h : Nat → Int) : ∀ k, k ≤ 65 → ∃ nx g, foldH (pp h k) = some (nx, g) ∧ nx ≤ k ∧ (∀ i, i < k → g i = h i) ∧ ∀ i, k ≤ i → g i = 0
  | 0, _ => ⟨0, zc, rfl, by omega, fun i hi => absurd hi (by omega), fun _ _ => rfl⟩
  | k + 1, hk => by
    obtain ⟨nx, g, e, h1, h2, h3⟩ := foldH_pp h k (by omega)
    simp only [pp]
    by_cases z : h k = 0
    · rw [if_pos z]
      refine ⟨nx, g, e, by omega, fun i hi => ?_, fun i hi => h3 i (by omega)⟩
      by_cases c : i = k
      · subst c; rw [h3 i (by omega), z]
      · exact h2 i (by omega)
    · rw [if_neg z, foldH_snoc, e]
      refine ⟨k + 1, cup g k (h k), ?_, by omega, fun i hi => ?_, fun i hi => by rw [cup, if_neg (by omega)]; exact h3 i (by omega)⟩
      · simp only [stepH]
        rw [if_neg (by omega)]
        rfl
      · by_cases c : i = k
        · subst c; rw [cup, if_pos rfl]
        · rw [cup, if_neg c]; exact h2 i (by omega)

def stepR (s : Option (Nat → Int)) (p : PV) : Option (Nat → Int) := match s with
  | none => none
  | some h => if p.1 < 0 ∨ 64 < p.1 then none else some (cup h p.1.toNat p.2)
def foldR (ps : List PV) : Option (Nat → Int) := ps.foldl stepR (some zc)
theorem foldR_snoc (ps : List PV) (p : PV) : foldR (ps ++ [p]) = stepR (foldR ps) p := by simp [foldR]
theorem foldR_none (ps : List PV) : ps.foldl stepR none = none := by
  induction ps with
  | nil => rfl
  | cons p ps ih => simpa [stepR] using ih
theorem foldR_stuck (ps qs : List PV) (h : foldR ps = none) : foldR (ps ++ qs) = none := by
  unfold foldR at *; rw [List.foldl_append, h]; exact foldR_none qs
theorem foldR_of_H : ∀ ps nx h, foldH ps = some (nx, h) → foldR ps = some h := by
  refine snoc_ind ?_ ?_
  · intro nx h e; simp [foldH] at e; rw [← e.2]; rfl
  · intro ps p ih nx' h' e
    rw [foldH_snoc] at e
    cases hs : foldH ps with
    | none => rw [hs] at e; cases e
    | some s =>
      obtain ⟨nx, h⟩ := s
      rw [hs] at e
      obtain ⟨h1, h2, h3, rfl, rfl⟩ := stepH_some e
      rw [foldR_snoc, ih nx h hs]
      simp only [stepR]
      rw [if_neg (by omega)]

def hdF (c : Nat → Int) (n : Int) : List Int := [c 0, c 1, wrap64 (c 2), c 3, c 4, c 5, c 6, c 7, c 8, n]
/-- The Hist of a cell. -/
def hf (c : Nat → Int) : Nat → Int := fun i => c (9 + i)
/-- A cell as numbers. -/
def numsF (c : Nat → Int) : List Int := hdF c ((pp (hf c) 65).length : Int) ++ flatP (pp (hf c) 65)
def uw (x : Int) : Int := x % 18446744073709551616
def cellOf (l : List Int) (h : Nat → Int) : Nat → Int := fun i => if i < 9 then (if i = 2 then uw (l.getD 2 0) else l.getD i 0) else h (i - 9)
def takeF (l : List Int) (ps : List PV) : Option (Nat → Int) := (foldH ps).map fun s => cellOf l s.2
/-- Numbers that begin with a cell: its pairs are ps, the others more. -/
structure Parts (l : List Int) (ps : List PV) (more : List Int) : Prop where
  len : 10 ≤ l.length
  nine : l.getD 9 0 = (ps.length : Int)
  rest : l.drop 10 = flatP ps ++ more
theorem list10 : ∀ l : List Int, 10 ≤ l.length → l = [l.getD 0 0, l.getD 1 0, l.getD 2 0, l.getD 3 0, l.getD 4 0, l.getD 5 0, l.getD 6 0, l.getD 7 0, l.getD 8 0, l.getD 9 0] ++ l.drop 10
  | a :: b :: c :: d :: e :: f :: g :: h :: i :: j :: l, _ => by simp
  | [], h | [_], h | [_, _], h | [_, _, _], h | [_, _, _, _], h | [_, _, _, _, _], h | [_, _, _, _, _, _], h | [_, _, _, _, _, _, _], h | [_, _, _, _, _, _, _, _], h | [_, _, _, _, _, _, _, _, _], h => by simp at h
theorem wrap_uw (x : Int) (h0 : -9223372036854775808 ≤ x) (h1 : x ≤ 9223372036854775807) : wrap64 (uw x) = x := by unfold wrap64 uw; omega
theorem uw_wrap (x : Int) (h0 : 0 ≤ x) (h1 : x ≤ 18446744073709551615) : uw (wrap64 x) = x := by unfold wrap64 uw; omega
theorem hf_cellOf (l : List Int) (h : Nat → Int) : hf (cellOf l h) = h := by funext i; unfold hf cellOf; rw [if_neg (by omega), Nat.add_sub_cancel_left]
theorem numsF_cellOf (l : List Int) (h : Nat → Int) (h0 : -9223372036854775808 ≤ l.getD 2 0) (h1 : l.getD 2 0 ≤ 9223372036854775807) :
    numsF (cellOf l h) = [l.getD 0 0, l.getD 1 0, l.getD 2 0, l.getD 3 0, l.getD 4 0, l.getD 5 0, l.getD 6 0, l.getD 7 0, l.getD 8 0, ((pp h 65).length : Int)] ++ flatP (pp h 65) := by
  unfold numsF
  rw [hf_cellOf]
  unfold hdF
  have e2 : wrap64 (cellOf l h 2) = l.getD 2 0 := wrap_uw _ h0 h1
  rw [e2]
  rfl
/-- What is taken has the same numbers. -/
theorem take_back {l : List Int} {ps : List PV} {more : List Int} {nx : Nat} {h : Nat → Int} (hp : Parts l ps more) (e : foldH ps = some (nx, h)) (h0 : -9223372036854775808 ≤ l.getD 2 0) (h1 : l.getD 2 0 ≤ 9223372036854775807) : numsF (cellOf l h) ++ more = l := by
  obtain ⟨i1, i2, i3⟩ := foldH_inv ps nx h e
  have : pp h 65 = ps := by
    obtain ⟨d, hd⟩ : ∃ d, 65 = nx + d := ⟨65 - nx, by omega⟩
    rw [hd, pp_zero nx d (fun i ha _ => i2 i ha), i3]
  rw [numsF_cellOf l h h0 h1, this, ← hp.nine, List.append_assoc, ← hp.rest]
  exact (list10 l hp.len).symm
theorem pairs_65 {ps : List PV} {nx : Nat} {h : Nat → Int} (e : foldH ps = some (nx, h)) : ps.length ≤ 65 := by
  obtain ⟨i1, i2, i3⟩ := foldH_inv ps nx h e
  have := pp_len h nx
  rw [i3] at this; omega
/-- A cell's numbers are taken as that cell. -/
theorem take_nums (c : Nat → Int) (hc : Wf c) (more : List Int) : Parts (numsF c ++ more) (pp (hf c) 65) more ∧ ∃ nx h, foldH (pp (hf c) 65) = some (nx, h) ∧ Eqv (cellOf (numsF c ++ more) h) c := by
  obtain ⟨nx, h, e, h1, h2, h3⟩ := foldH_pp (hf c) 65 (by omega)
  refine ⟨⟨?_, ?_, ?_⟩, nx, h, e, fun i hi => ?_⟩
  · simp [numsF, hdF]
  · simp [numsF, hdF]
  · simp [numsF, hdF]
  · unfold cellOf
    by_cases c9 : i < 9
    · rw [if_pos c9]
      match i, c9 with
      | 2, _ => rw [if_pos rfl]; simp only [numsF, hdF, List.cons_append, List.getD_cons_succ, List.getD_cons_zero]; exact uw_wrap _ hc.1.1 hc.1.2
      | 0, _ | 1, _ | 3, _ | 4, _ | 5, _ | 6, _ | 7, _ | 8, _ => simp [numsF, hdF]
    · rw [if_neg c9, h2 (i - 9) (by omega)]
      unfold hf
      rw [show 9 + (i - 9) = i from by omega]
/-- Read, and written again: the same. -/
theorem again_iff {l : List Int} {ps : List PV} {more : List Int} {g : Nat → Int} (hp : Parts l ps more) (e : foldR ps = some g) (h0 : -9223372036854775808 ≤ l.getD 2 0) (h1 : l.getD 2 0 ≤ 9223372036854775807) :
    (numsF (cellOf l g) = l.take (10 + 2 * ps.length) → ∃ nx h, foldH ps = some (nx, h) ∧ ∀ i, i < 65 → h i = g i) ∧ (∀ nx h, foldH ps = some (nx, h) → numsF (cellOf l g) = l.take (10 + 2 * ps.length)) := by
  have ht : l.take (10 + 2 * ps.length) = [l.getD 0 0, l.getD 1 0, l.getD 2 0, l.getD 3 0, l.getD 4 0, l.getD 5 0, l.getD 6 0, l.getD 7 0, l.getD 8 0, (ps.length : Int)] ++ flatP ps := by
    conv => lhs; rw [list10 l hp.len, hp.rest, hp.nine]
    rw [← List.append_assoc]
    exact List.take_left' (by simp [flatP_len]; omega)
  constructor
  · intro h
    rw [numsF_cellOf l g h0 h1, ht] at h
    have h2 : pp g 65 = ps := by
      have := List.append_inj_right' h (by
        have := congrArg List.length h
        simp only [List.length_append, List.length_cons, List.length_nil] at this
        omega)
      exact flatP_inj _ _ this
    obtain ⟨nx, k, e2, h1, h2', h3⟩ := foldH_pp g 65 (by omega)
    rw [h2] at e2
    exact ⟨nx, k, e2, h2'⟩
  · intro nx h e2
    have := foldR_of_H ps nx h e2
    rw [e] at this
    cases this
    have h3 := take_back hp e2 h0 h1
    conv => rhs; rw [← h3]
    rw [List.take_left']
    obtain ⟨i1, i2, i3⟩ := foldH_inv ps nx g e2
    have : pp g 65 = ps := by
      obtain ⟨d, hd⟩ : ∃ d, 65 = nx + d := ⟨65 - nx, by omega⟩
      rw [hd, pp_zero nx d (fun i ha _ => i2 i ha), i3]
    rw [numsF_cellOf l g h0 h1, this]
    simp [flatP_len]
    omega
end Go.Proofs.Ytnppdachbfcfkaa
