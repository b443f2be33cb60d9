/-
  The document's cell of a row of samples: estuaryref02.Of.
-/
import Derived.Test.YtnppdachbfcfkaaOnes
import Derived.Test.YtnppdachbfcfkaaWalk10
import Derived.Test.YtnppdachbfcfkaaRof
import Derived.Deep.RegionWith
namespace Go.Proofs.Ytnppdachbfcfkaa
open Go.RowKit Go.Shelf
set_option linter.unusedVariables false

theorem joinO_ones : ∀ (l : List (Nat → Int)) (o : Option (Nat → Int)), (o ≠ none ∨ l ≠ []) → (l.map oneS).foldl stepJ o ≠ none
  | [], o, h => by simpa using h
  | s :: l, o, h => by
    simp only [List.map_cons, List.foldl_cons]
    refine joinO_ones l _ (.inl ?_)
    cases o with
    | none => rw [stepJ_none (one_not s)]; simp
    | some x => rw [stepJ_some (one_not s)]; simp
theorem joinF_first (s : Nat → Int) : joinF ([s].map oneS) = oneS s := by
  unfold joinF joinO; simp [stepJ_none (one_not s)]
theorem joinF_next (m : List (Nat → Int)) (s : Nat → Int) (h : m ≠ []) : joinF ((m ++ [s]).map oneS) = bothF (joinF (m.map oneS)) (oneS s) := by
  have h1 := joinO_ones m none (.inr h)
  unfold joinF joinO
  simp only [List.map_append, List.map_cons, List.map_nil, List.foldl_append, List.foldl_cons, List.foldl_nil]
  cases e : (m.map oneS).foldl stepJ none with
  | none => exact absurd e h1
  | some x => rw [stepJ_some (one_not s)]; rfl

theorem cup_self (x : Nat → Int) (p : Nat) : ∀ i, i < 74 → cup x p (x p) i = x i := by intro i _; unfold cup; split <;> simp_all
/-- The numbers that a round leaves. -/
def ofStep (x : Nat → Int) (m3 m4 m5 m6 m7 m8 v : Int) (b : Nat) : Nat → Int :=
  cup (cup (cup (cup (cup (cup (cup (cup (cup (cup x 3 m3) 4 m4) 5 m5) 6 m6) 7 m7) 8 m8) 0 (wrap64 (x 0 + 1))) 1 (wh (wv (x 1) (x 2) + wv (wh v) (wl v)))) 2 (wl (wv (x 1) (x 2) + wv (wh v) (wl v)))) (9 + b) (wrap64 (x (9 + b) + 1))
theorem ofStep_at (x : Nat → Int) (m3 m4 m5 m6 m7 m8 v : Int) (b i : Nat) : ofStep x m3 m4 m5 m6 m7 m8 v b i =
    if i = 9 + b then wrap64 (x (9 + b) + 1) else if i = 2 then wl (wv (x 1) (x 2) + wv (wh v) (wl v)) else if i = 1 then wh (wv (x 1) (x 2) + wv (wh v) (wl v)) else if i = 0 then wrap64 (x 0 + 1) else if i = 8 then m8 else if i = 7 then m7 else if i = 6 then m6 else if i = 5 then m5 else if i = 4 then m4 else if i = 3 then m3 else x i := rfl
theorem wv_zero (v : Int) : wv 0 0 + wv (wh v) (wl v) = wv (wh v) (wl v) := by unfold wv; omega
theorem wv_fit (v : Int) (h : Fit v) : wv (wh v) (wl v) = v := by have := h.1; have := h.2; unfold wv wh wl; omega

theorem ofStep_first (s : Nat → Int) (hf : Fit (s 5)) : ∀ i, i < 74 → ofStep zc (s 5) (s 5) (s 3) (s 0) (s 1) (s 5) (s 5) (Lib.bitLen (s 5).natAbs) i = oneS s i := by
  intro i hi
  have b := bl64 _ hf
  rw [ofStep_at]
  by_cases c : i = 9 + Lib.bitLen (s 5).natAbs
  · rw [if_pos c]; subst c; rw [oneS_hist _ _ b, if_pos rfl]; simp [zc, wrap64]
  · rw [if_neg c]
    by_cases d : i < 9
    · rw [oneS_head s i d]
      have e : wv (zc 1) (zc 2) + wv (wh (s 5)) (wl (s 5)) = s 5 := by rw [show zc 1 = 0 from rfl, show zc 2 = 0 from rfl, wv_zero, wv_fit _ hf]
      rw [e]
      unfold oneH
      match i, d with
      | 0, _ => simp [zc, wrap64]
      | 1, _ | 2, _ | 3, _ | 4, _ | 5, _ | 6, _ | 7, _ | 8, _ => rfl
    · obtain ⟨j, rfl⟩ : ∃ j, i = 9 + j := ⟨i - 9, by omega⟩
      rw [oneS_hist _ _ (by omega), if_neg (by omega)]
      repeat rw [if_neg (by omega)]
      rfl
theorem ofStep_next (x s : Nat → Int) (m5 m6 m7 m8 : Int) (hx : Wf x) (hf : Fit (s 5))
    (h5 : m5 = if ltr (s 3) (s 0) (s 1) (s 5) (x 5) (x 6) (x 7) (x 8) then s 3 else x 5) (h6 : m6 = if ltr (s 3) (s 0) (s 1) (s 5) (x 5) (x 6) (x 7) (x 8) then s 0 else x 6) (h7 : m7 = if ltr (s 3) (s 0) (s 1) (s 5) (x 5) (x 6) (x 7) (x 8) then s 1 else x 7) (h8 : m8 = if ltr (s 3) (s 0) (s 1) (s 5) (x 5) (x 6) (x 7) (x 8) then s 5 else x 8) :
    ∀ i, i < 74 → ofStep x (min (x 3) (s 5)) (max (x 4) (s 5)) m5 m6 m7 m8 (s 5) (Lib.bitLen (s 5).natAbs) i = bothF x (oneS s) i := by
  intro i hi
  have b := bl64 _ hf
  rw [ofStep_at]
  by_cases d : i < 9
  · rw [if_neg (by omega)]
    unfold bothF
    rw [if_pos d]
    unfold headF
    rw [oneS_head s 0 (by omega), oneS_head s 1 (by omega), oneS_head s 2 (by omega), oneS_head s 3 (by omega), oneS_head s 4 (by omega), oneS_head s 5 (by omega), oneS_head s 6 (by omega), oneS_head s 7 (by omega), oneS_head s 8 (by omega), oneS_head s i d]
    match i, d with
    | 0, _ | 1, _ | 2, _ | 3, _ | 4, _ => rfl
    | 5, _ => rw [h5]; rfl
    | 6, _ => rw [h6]; rfl
    | 7, _ => rw [h7]; rfl
    | 8, _ => rw [h8]; rfl
  · obtain ⟨j, rfl⟩ : ∃ j, i = 9 + j := ⟨i - 9, by omega⟩
    unfold bothF
    rw [if_neg d, oneS_hist _ _ (by omega)]
    by_cases c : j = Lib.bitLen (s 5).natAbs
    · rw [if_pos c, if_pos (by omega), c]
    · rw [if_neg c, if_neg (by omega)]
      repeat rw [if_neg (by omega)]
      have := hx.2 (9 + j) hi (by omega)
      unfold wrap64; omega

end Go.Proofs.Ytnppdachbfcfkaa
