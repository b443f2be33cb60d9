/-
  Rows of things that are written where they lie: one of them stored, some of them copied, cleared. Nothing here names the program.
-/
import Derived.Test.YtfnageillhpjpaaPk15
import Derived.Lib.SliceRun
namespace Go.Proofs.Ytfnageillhpjpaa
set_option maxRecDepth 100000
open Go.RowKit
set_option linter.unusedVariables false

section
variable {α : Type} {E : En α} {e : TypeId} {W W' : World} {g cap B : Nat} {L : List α}
/-- A row, with room behind it. -/
def Rw (E : En α) (e : TypeId) (W : World) (g cap : Nat) (L : List α) : Prop := L.length ≤ cap ∧ cap ≤ maxLen ∧ ∃ cur, Blk W g cur e ∧ cur.size = cap * E.k ∧ cur.toList.take (L.length * E.k) = E.fl L
theorem EO.rw {n : Nat} (h : EO E e W B (.slice (some ⟨g, 0, none⟩) n cap) L) : Rw E e W g cap L ∧ B ≤ g := by
  obtain ⟨h1, h2⟩ := h
  rcases h2 with ⟨h2, _⟩ | ⟨g', cap', cur, e1, hb, hg, hnc, hcm, hcs, ht⟩
  · cases h2
  · cases e1
    exact ⟨⟨hnc, hcm, cur, hg, hcs, ht⟩, hb⟩
theorem Rw.lt (h : Rw E e W g cap L) : g < W.heap.size := by
  obtain ⟨_, _, cur, hB, _⟩ := h
  exact hB.lt
theorem Rw.eo (h : Rw E e W g cap L) (hb : B ≤ g) {i : Nat} (hi : i ≤ L.length) : EO E e W B (.slice (some ⟨g, 0, none⟩) i cap) (L.take i) := by
  obtain ⟨h1, h2, cur, hB, hs, ht⟩ := h
  have hl : (L.take i).length = i := by rw [List.length_take, Nat.min_eq_left hi]
  unfold EO
  rw [hl]
  refine ⟨by rw [E.fl_len, hl], .inr ⟨g, cap, cur, rfl, hb, hB, by omega, h2, hs, ?_⟩⟩
  rw [← E.fl_take, ← ht, List.take_take, Nat.min_eq_left (Nat.mul_le_mul_right _ hi)]
theorem Rw.keep (h : Rw E e W g cap L) (hb : Below W.heap.size W W') : Rw E e W' g cap L := by
  obtain ⟨h1, h2, cur, hB, hs, ht⟩ := h
  exact ⟨h1, h2, cur, hB.keep hb, hs, ht⟩
theorem Rw.cell (h : Rw E e W g cap L) {j : Nat} {c : α} (hj : L[j]? = some c) {i : Nat} {u : Value} (hu : (E.f c)[i]? = some u) : W.cell? ⟨g, j * E.k + i, none⟩ = some u := by
  obtain ⟨h1, h2, cur, hB, hs, ht⟩ := h
  have h3 := E.fl_at L j c hj i u hu
  have h4 := (List.getElem?_eq_some_iff.1 h3).1
  rw [E.fl_len] at h4
  rw [← ht, List.getElem?_take_of_lt h4] at h3
  rw [hB.cell]
  simpa using h3
/-- Some cells of a list, put in the place of others. -/
theorem take_splice {cur : List Value} {M : List α} {i : Nat} (h : cur.take (L.length * E.k) = E.fl L) (hi : i + M.length ≤ L.length) :
    (cur.take (i * E.k) ++ E.fl M ++ cur.drop (i * E.k + M.length * E.k)).take (L.length * E.k) = E.fl (L.take i ++ M ++ L.drop (i + M.length)) := by
  have e1 : cur = E.fl L ++ cur.drop (L.length * E.k) := by rw [← h, List.take_append_drop]
  have e2 : cur.take (i * E.k) = E.fl (L.take i) := by
    rw [← E.fl_take, ← h, List.take_take, Nat.min_eq_left (Nat.mul_le_mul_right _ (by omega))]
  have e3 : cur.drop (i * E.k + M.length * E.k) = E.fl (L.drop (i + M.length)) ++ cur.drop (L.length * E.k) := by
    have hle : i * E.k + M.length * E.k ≤ (E.fl L).length := by rw [E.fl_len, ← Nat.add_mul]; exact Nat.mul_le_mul_right _ hi
    conv => lhs; rw [e1]
    rw [List.drop_append_of_le_length hle, ← Nat.add_mul, E.fl_drop]
  rw [e2, e3, ← List.append_assoc, ← E.fl_append, ← E.fl_append, List.take_left']
  rw [E.fl_len, List.length_append, List.length_append, List.length_take, List.length_drop, Nat.min_eq_left (by omega)]
  congr 1
  omega
theorem Rw.splice (h : Rw E e W g cap L) {M : List α} {i : Nat} (hi : i + M.length ≤ L.length) : ∃ cur, Blk W g cur e ∧ i * E.k + (E.fl M).length ≤ cur.size ∧ Rw E e (W.setRow g (cur.toList.take (i * E.k) ++ E.fl M ++ cur.toList.drop (i * E.k + (E.fl M).length)).toArray) g cap (L.take i ++ M ++ L.drop (i + M.length)) ∧ Chg g W (W.setRow g (cur.toList.take (i * E.k) ++ E.fl M ++ cur.toList.drop (i * E.k + (E.fl M).length)).toArray) := by
  obtain ⟨h1, h2, cur, hB, hs, ht⟩ := h
  have hl : (L.take i ++ M ++ L.drop (i + M.length)).length = L.length := by
    rw [List.length_append, List.length_append, List.length_take, List.length_drop, Nat.min_eq_left (by omega)]; omega
  have hfit : i * E.k + M.length * E.k ≤ cap * E.k := by rw [← Nat.add_mul]; exact Nat.mul_le_mul_right _ (by omega)
  rw [E.fl_len]
  refine ⟨cur, hB, by omega, ⟨by rw [hl]; exact h1, h2, _, blk_setRow hB _, ?_, ?_⟩, chg_setRow _ _ _⟩
  · have ha : (cur.toList.take (i * E.k)).length = i * E.k := by rw [List.length_take, Array.length_toList, hs, Nat.min_eq_left (by omega)]
    have hb : cur.toList.length = cap * E.k := by rw [Array.length_toList, hs]
    rw [List.size_toArray, List.length_append, List.length_append, ha, E.fl_len, List.length_drop, hb]
    omega
  · rw [hl]
    exact take_splice ht hi
/-- Cells of an array, set one behind the other. -/
def setA : Array Value → Nat → List Value → Array Value
  | xs, _, [] => xs
  | xs, o, c :: cs => setA (xs.setIfInBounds o c) (o + 1) cs
theorem setA_size : ∀ (cs : List Value) (o : Nat) (xs : Array Value), (setA xs o cs).size = xs.size
  | [], o, xs => rfl
  | c :: cs, o, xs => by unfold setA; rw [setA_size cs]; simp
theorem setA_list : ∀ (cs : List Value) (o : Nat) (xs : Array Value), o + cs.length ≤ xs.size → (setA xs o cs).toList = xs.toList.take o ++ cs ++ xs.toList.drop (o + cs.length)
  | [], o, xs, h => by simp [setA]
  | c :: cs, o, xs, h => by
    unfold setA
    have ho : o < xs.toList.length := by simp at h ⊢; omega
    rw [setA_list cs (o + 1) _ (by simp at h ⊢; omega), Array.toList_setIfInBounds, List.set_eq_take_append_cons_drop, if_pos ho]
    have hlt : (xs.toList.take o).length = o := by rw [List.length_take, Nat.min_eq_left (by omega)]
    have e1 : (xs.toList.take o ++ c :: xs.toList.drop (o + 1)).take (o + 1) = xs.toList.take o ++ [c] := by
      rw [List.take_append, hlt, List.take_of_length_le (by omega), show o + 1 - o = 1 by omega]; rfl
    have e2 : (xs.toList.take o ++ c :: xs.toList.drop (o + 1)).drop (o + 1 + cs.length) = xs.toList.drop (o + (c :: cs).length) := by
      rw [List.drop_append, hlt, List.drop_of_length_le (by omega), List.nil_append, show o + 1 + cs.length - o = cs.length + 1 by omega, List.drop_succ_cons, List.drop_drop, List.length_cons]
      congr 1
      omega
    rw [e1, e2]
    simp
theorem blk_setCells {b : Nat} {t : TypeId} : ∀ (cs : List Value) (o : Nat) (W : World) (arr : Array Value), Blk W b arr t → Blk (W.setCells b o cs) b (setA arr o cs) t ∧ Chg b W (W.setCells b o cs)
  | [], o, W, arr, h => ⟨h, Chg.refl _ _⟩
  | c :: cs, o, W, arr, h => by
    obtain ⟨h2, h3⟩ := blk_setCells cs (o + 1) _ _ (h.set o c)
    exact ⟨h2, (chg_set _ _ _ _).trans h3⟩
/-- One of them stored. -/
theorem Rw.stored (h : Rw E e W g cap L) {i : Nat} (hi : i < L.length) (c : α) : Rw E e (W.setCells g (i * E.k) (E.f c)) g cap (L.set i c) ∧ Chg g W (W.setCells g (i * E.k) (E.f c)) ∧ W.there g (i * E.k) E.k := by
  obtain ⟨h1, h2, cur, hB, hs, ht⟩ := h
  obtain ⟨h3, h4⟩ := blk_setCells (E.f c) (i * E.k) W cur hB
  have hfit : i * E.k + E.k ≤ cap * E.k := by
    have : (i + 1) * E.k ≤ cap * E.k := Nat.mul_le_mul_right _ (by omega)
    rwa [Nat.add_mul, Nat.one_mul] at this
  refine ⟨⟨by rw [List.length_set]; exact h1, h2, _, h3, by rw [setA_size, hs], ?_⟩, h4, fun j hj => ⟨?_, hB.frozen _⟩⟩
  · rw [setA_list _ _ _ (by rw [E.len, hs]; exact hfit), List.length_set, E.len, E.fl_set L i c hi]
    have := take_splice (E := E) (M := [c]) (i := i) ht (by rw [List.length_singleton]; omega)
    rw [E.fl_one1, List.length_singleton, Nat.one_mul] at this
    rw [this, E.fl_append, E.fl_append, E.fl_one1, E.fl_take, E.fl_drop]
  · rw [hB.cell, Array.getElem?_eq_getElem (by omega)]
    rfl
end
section
variable {P : Program} {α : Type} {E : En α} {e : TypeId} {w : World} {g cap : Nat} {L : List α}
/-- 'clear' of some of them: its run. -/
theorem rw_clear {t ty : TypeId} {z : Array Value} (zz : α) (hzz : z.toList = E.f zz) (ht : P.underlying t = some (.slice e)) (hv : ∀ w, (zeroValue e).run P w = .ok (.agg z) w) (h : Rw E e w g cap L) {i n c : Nat} (hn : i + n ≤ L.length) (hn0 : 0 < n) :
    ∃ w', (Builtin.clear_ #[t] ty #[.slice (some ⟨g, i * E.k, none⟩) n c]).run P w = .ok (.tuple #[]) w' ∧ Rw E e w' g cap (L.take i ++ List.replicate n zz ++ L.drop (i + n)) ∧ Chg g w w' := by
  obtain ⟨cur, hB, hf, h3, h4⟩ := h.splice (M := List.replicate n zz) (i := i) (by rw [List.length_replicate]; exact hn)
  have hs : z.size = E.k := by rw [← Array.length_toList, hzz, E.len]
  have hzc : (Builtin.zeroCells z n).toList = E.fl (List.replicate n zz) := by
    rw [← made_E E zz z hzz n]
    simp [Builtin.zeroCells, madeCells, hs]
  have hst := run_storeCells_at P g (i * E.k) e (E.fl (List.replicate n zz)) 0 cur w hB (by simpa using hf) (E.fl_cell _)
  rw [List.length_replicate] at h3
  obtain ⟨m, rfl⟩ : ∃ m, n = m + 1 := ⟨n - 1, by omega⟩
  refine ⟨_, ?_, h3, h4⟩
  simp only [Nat.add_zero] at hst
  have hzc' : (Builtin.zeroCells (Value.agg z).cells (m + 1)).toList = E.fl (List.replicate (m + 1) zz) := hzc
  simp [Builtin.clear_, run_underlying ht, hv, hzc', hst]
/-- 'copy' into them: its run. -/
theorem rw_copy {dT sT ty : TypeId} (hu : P.underlying dT = some (.slice e)) (hs : (P.info? e).map (·.size) = some E.k) (h : Rw E e w g cap L) {i dLen dCap sLen sCap : Nat} {a : Addr} {M : List α} (hM : M.length = Nat.min sLen dLen) (hi : i + M.length ≤ L.length)
    (hsrc : ∀ j v, (E.fl M)[j]? = some v → w.cell? (a.add j) = some v) :
    ∃ w', (Builtin.copy_ #[dT, sT] ty #[.slice (some ⟨g, i * E.k, none⟩) dLen dCap, .slice (some a) sLen sCap]).run P w = .ok (goInt (Nat.min sLen dLen)) w' ∧ Rw E e w' g cap (L.take i ++ M ++ L.drop (i + M.length)) ∧ Chg g w w' := by
  obtain ⟨cur, hB, hf, h3, h4⟩ := h.splice (M := M) (i := i) hi
  exact ⟨_, run_copy_rowK (P := P) w dT sT ty e E.k g (i * E.k) dLen dCap a sLen sCap cur e (E.fl M) hu hs hB (by rw [E.fl_len, hM]) hsrc hf (E.fl_cell _), h3, h4⟩
end
end Go.Proofs.Ytfnageillhpjpaa
