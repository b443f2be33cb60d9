/-
  The cells of samples, joined in whatever groups. Plain mathematics.
-/
import Derived.Test.YtnppdachbfcfkaaAssoc
namespace Go.Proofs.Ytnppdachbfcfkaa
open Go.RowKit
set_option linter.unusedVariables false

/-- What samples come to. -/
def JL (m : List (Nat → Int)) : Nat → Int := joinF (m.map oneS)
theorem eqC_congr {a b c d : Nat → Int} (h : Eqv a c) (k : Eqv b d) : eqC a b = eqC c d := by
  rw [Bool.eq_iff_iff, eqC_iff, eqC_iff]
  exact ⟨fun e i hi => by rw [← h i hi, ← k i hi]; exact e i hi, fun e i hi => by rw [h i hi, k i hi]; exact e i hi⟩
theorem eqC_of {a b : Nat → Int} (h : Eqv a b) : eqC a b = true := (eqC_iff a b).2 h
theorem JL_nil : JL [] = zc := rfl
theorem JL_not (m : List (Nat → Int)) (hn : m.length ≤ 2000) (hf : ∀ s ∈ m, Fit (s 5)) (h : m ≠ []) : eqC (JL m) zc = false := by
  cases e : eqC (JL m) zc with
  | false => rfl
  | true =>
    have := (eqC_iff _ _).1 e 0 (by omega)
    rw [JL, (bd_ones m hn hf).cnt] at this
    have hl : 0 < m.length := List.length_pos_iff.2 h
    simp [zc] at this
    exact absurd this h
theorem stepJ_congr {s t : Option (Nat → Int)} (hs : (s = none ∧ t = none) ∨ ∃ x y, s = some x ∧ t = some y ∧ Eqv x y) (c : Nat → Int) :
    (stepJ s c = none ∧ stepJ t c = none) ∨ ∃ x y, stepJ s c = some x ∧ stepJ t c = some y ∧ Eqv x y := by
  cases hc : eqC c zc with
  | true => rw [stepJ_unit hc, stepJ_unit hc]; exact hs
  | false =>
    rcases hs with ⟨rfl, rfl⟩ | ⟨x, y, rfl, rfl, e⟩
    · rw [stepJ_none hc]; exact .inr ⟨c, c, rfl, rfl, Eqv.refl _⟩
    · rw [stepJ_some hc, stepJ_some hc]; exact .inr ⟨_, _, rfl, rfl, both_congr e (Eqv.refl _)⟩
/-- Some cell, then samples. -/
theorem fold_some (x : Nat → Int) : ∀ (m : List (Nat → Int)) (y : Nat → Int), ∃ z, (m.map oneS).foldl stepJ (some (bothF x y)) = some z ∧ ∃ z', (m.map oneS).foldl stepJ (some y) = some z' ∧ Eqv z (bothF x z')
  | [], y => ⟨_, rfl, _, rfl, Eqv.refl _⟩
  | s :: m, y => by
    simp only [List.map_cons, List.foldl_cons]
    rw [stepJ_some (one_not s), stepJ_some (one_not s)]
    obtain ⟨z, h1, z', h2, e⟩ := fold_some x m (bothF y (oneS s))
    obtain ⟨u, h3, v, h4, e2⟩ : ∃ u, (m.map oneS).foldl stepJ (some (bothF (bothF x y) (oneS s))) = some u ∧ ∃ v, (m.map oneS).foldl stepJ (some (bothF x (bothF y (oneS s)))) = some v ∧ Eqv u v := by
      have : ∀ (m : List (Nat → Int)) (p q : Nat → Int), Eqv p q → ∃ u, (m.map oneS).foldl stepJ (some p) = some u ∧ ∃ v, (m.map oneS).foldl stepJ (some q) = some v ∧ Eqv u v := by
        intro m
        induction m with
        | nil => intro p q e; exact ⟨_, rfl, _, rfl, e⟩
        | cons t m ih =>
          intro p q e
          simp only [List.map_cons, List.foldl_cons]
          rw [stepJ_some (one_not t), stepJ_some (one_not t)]
          exact ih _ _ (both_congr e (Eqv.refl _))
      exact this m _ _ (both_assoc x y (oneS s))
    rw [h1] at h4
    cases h4
    exact ⟨u, h3, z', h2, e2.trans e⟩
theorem joinO_some (m : List (Nat → Int)) (h : m ≠ []) : ∃ x, (m.map oneS).foldl stepJ none = some x ∧ JL m = x := by
  cases e : (m.map oneS).foldl stepJ none with
  | none =>
    exfalso
    cases m with
    | nil => exact h rfl
    | cons s m =>
      simp only [List.map_cons, List.foldl_cons] at e
      rw [stepJ_none (one_not s)] at e
      have : ∀ (m : List (Nat → Int)) (p : Nat → Int), (m.map oneS).foldl stepJ (some p) ≠ none := by
        intro m
        induction m with
        | nil => intro p; simp
        | cons t m ih => intro p; simp only [List.map_cons, List.foldl_cons]; rw [stepJ_some (one_not t)]; exact ih _
      exact this _ _ e
  | some x => exact ⟨x, rfl, by unfold JL joinF joinO; rw [e]; rfl⟩
theorem JL_append (m k : List (Nat → Int)) (hm : m ≠ []) (hk : k ≠ []) : Eqv (JL (m ++ k)) (bothF (JL m) (JL k)) := by
  obtain ⟨x, hx, ex⟩ := joinO_some m hm
  obtain ⟨y, hy, ey⟩ := joinO_some k hk
  cases k with
  | nil => exact absurd rfl hk
  | cons s k =>
    simp only [List.map_cons, List.foldl_cons] at hy
    rw [stepJ_none (one_not s)] at hy
    obtain ⟨z, h1, z', h2, e⟩ := fold_some x k (oneS s)
    rw [hy] at h2
    cases h2
    have : JL (m ++ s :: k) = z := by
      unfold JL joinF joinO
      rw [List.map_append, List.foldl_append, hx, List.map_cons, List.foldl_cons, stepJ_some (one_not s), h1]
      rfl
    rw [this, ex, ey]
    exact e
/-- Two cells joined. -/
theorem joinF2 (a b : Nat → Int) : joinF [a, b] = if eqC a zc then (if eqC b zc then zc else b) else (if eqC b zc then a else bothF a b) := by
  unfold joinF joinO
  simp only [List.foldl_cons, List.foldl_nil]
  cases ha : eqC a zc <;> cases hb : eqC b zc
  · rw [stepJ_none ha, stepJ_some hb]; rfl
  · rw [stepJ_none ha, stepJ_unit hb]; rfl
  · rw [stepJ_unit ha, stepJ_none hb]; rfl
  · rw [stepJ_unit ha, stepJ_unit hb]; rfl
theorem join_groups (m k : List (Nat → Int)) (hn : m.length + k.length ≤ 2000) (hf : ∀ s ∈ m, Fit (s 5)) (hg : ∀ s ∈ k, Fit (s 5)) : Eqv (joinF [JL m, JL k]) (JL (m ++ k)) := by
  rw [joinF2]
  by_cases hm : m = []
  · subst hm
    rw [JL_nil, if_pos (eqC_refl _), List.nil_append]
    by_cases hk : k = []
    · subst hk; rw [JL_nil, if_pos (eqC_refl _)]; exact Eqv.refl _
    · rw [if_neg (by rw [JL_not k (by omega) hg hk]; simp)]; exact Eqv.refl _
  · rw [if_neg (by rw [JL_not m (by omega) hf hm]; simp)]
    by_cases hk : k = []
    · subst hk; rw [JL_nil, if_pos (eqC_refl _), List.append_nil]; exact Eqv.refl _
    · rw [if_neg (by rw [JL_not k (by omega) hg hk]; simp)]; exact (JL_append m k hm hk).symm
theorem JL_one (s : Nat → Int) : JL [s] = oneS s := by
  unfold JL joinF joinO; simp [stepJ_none (one_not s)]
/-- A sample's cell behind what others come to: as if it stood ahead of them. -/
theorem join_back (s : Nat → Int) (k : List (Nat → Int)) (hn : 1 + k.length ≤ 2000) (hs : Fit (s 5)) (hg : ∀ s ∈ k, Fit (s 5)) : Eqv (joinF [JL k, oneS s]) (JL (s :: k)) := by
  rw [joinF2, if_neg (c := eqC (oneS s) zc = true) (by rw [one_not]; simp), if_neg (c := eqC (oneS s) zc = true) (by rw [one_not]; simp)]
  by_cases hk : k = []
  · subst hk; rw [JL_nil, if_pos (eqC_refl _), JL_one]; exact Eqv.refl _
  · rw [if_neg (by rw [JL_not k (by omega) hg hk]; simp)]
    have h := JL_append [s] k (by simp) hk
    rw [JL_one] at h
    exact (both_comm _ _).trans (Eqv.symm h)
theorem join_units (x : Nat → Int) : Eqv (joinF [zc, x, zc]) x := by
  unfold joinF joinO
  simp only [List.foldl_cons, List.foldl_nil]
  rw [stepJ_unit (eqC_refl zc), stepJ_unit (c := zc) (eqC_refl zc)]
  cases h : eqC x zc with
  | true => rw [stepJ_unit h]; exact Eqv.symm ((eqC_iff _ _).1 h)
  | false => rw [stepJ_none h]; exact Eqv.refl _
theorem CA_eqv {a b : Nat → Int} (h : Eqv a b) : CA a = CA b := CA_congr h
theorem wf_JL {m : List (Nat → Int)} (h : ∀ s ∈ m, Fit (s 0) ∧ Fit (s 1) ∧ Fit (s 3) ∧ Fit (s 5)) : Wf (JL m) := wf_joinF _ fun c hc => by
  obtain ⟨s, hs, rfl⟩ := List.mem_map.1 hc
  have := h s hs
  exact wf_one _ _ _ _ this.1 this.2.1 this.2.2.1 this.2.2.2
end Go.Proofs.Ytnppdachbfcfkaa
