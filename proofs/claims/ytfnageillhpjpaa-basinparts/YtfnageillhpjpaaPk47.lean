/-
  estuarynum.Entries: the same entries.
-/
import Derived.Test.YtfnageillhpjpaaPk43
import Derived.Test.YtfnageillhpjpaaPk46
import Derived.Test.YtfnageillhpjpaaPk34
namespace Go.Proofs.Ytfnageillhpjpaa
open Go.RowKit
set_option linter.unusedVariables false
set_option maxRecDepth 100000

def entF (x : Ent) : Nat → Int := fun i => if i = 0 then x.1.1 else if i = 1 then x.1.2 else x.2 (i - 2)
theorem entA_AG (x : Ent) : (entA x).toList = (AG 76 ek (entF x)).toList := by
  apply List.ext_getElem?
  intro i
  by_cases hi : i < 76
  · rw [AG_at 76 ek _ i hi]
    unfold entA
    match i, hi with
    | 0, _ => rfl
    | 1, _ => rfl
    | i + 2, hi =>
      have h74 : i < 74 := by omega
      rw [List.getElem?_append_right (by simp)]
      simp only [List.length_cons, List.length_nil]
      rw [show i + 2 - (0 + 1 + 1) = i by omega, Array.getElem?_toList, CA_at x.2 i h74]
      unfold entF ek ck
      rw [if_neg (show ¬ i + 2 = 0 by omega), if_neg (show ¬ i + 2 = 1 by omega), show i + 2 - 2 = i by omega]
      by_cases e : i = 2
      · subst e; rfl
      · rw [if_neg e, if_neg (show ¬ i + 2 = 4 by omega)]
  · rw [List.getElem?_eq_none (by rw [Array.length_toList, entA_size]; omega), List.getElem?_eq_none (by rw [AG_len]; omega)]
theorem er_sr76 {W : World} {v : Value} {l : List Ent} (h : ER EE W v l) : SR 76 ek W v (l.map entF) := by
  obtain ⟨q, cap, g, off, h1, h2, h3, h4, h5⟩ := h.at
  refine ⟨q, cap, g, off, by rw [List.length_map]; exact h1, by rw [List.length_map]; exact h2, h3, fun h0 => (h4 (by rwa [List.length_map] at h0)).1, fun h0 => (h4 (by rwa [List.length_map] at h0)).2, ?_⟩
  intro j c hj i u hu
  rw [List.getElem?_map] at hj
  cases hx : l[j]? with
  | none => rw [hx] at hj; cases hj
  | some x =>
    rw [hx] at hj
    cases hj
    exact h5 j x hx i u (by show (entA x).toList[i]? = some u; rw [entA_AG]; exact hu)
/-- Entries that are the same: places, and cells number by number. -/
def EntQ (l m : List Ent) : Prop := l.length = m.length ∧ ∀ (j : Nat) (x y : Ent), l[j]? = some x → m[j]? = some y → x.1 = y.1 ∧ Eqv x.2 y.2
theorem entQ_eqL {l m : List Ent} (h : EntQ l m) : EqL 76 (l.map entF) (m.map entF) := by
  refine ⟨by rw [List.length_map, List.length_map]; exact h.1, fun j x y hx hy => ?_⟩
  rw [List.getElem?_map] at hx hy
  cases h1 : l[j]? with
  | none => rw [h1] at hx; cases hx
  | some a =>
    cases h2 : m[j]? with
    | none => rw [h2] at hy; cases hy
    | some b =>
      rw [h1] at hx
      rw [h2] at hy
      cases hx
      cases hy
      obtain ⟨e1, e2⟩ := h.2 j a b h1 h2
      intro i hi
      unfold entF
      rw [e1]
      split
      · rfl
      · split
        · rfl
        · exact e2 (i - 2) (by omega)
end Go.Proofs.Ytfnageillhpjpaa
