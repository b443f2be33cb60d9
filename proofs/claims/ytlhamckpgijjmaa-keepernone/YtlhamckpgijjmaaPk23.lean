/-
  note.Encode.
  Parts of slices of numbers; note.placeOf, counted.
  Slices of structs that the call makes and writes; note.opsOf.
-/
import Derived.Test.YtlhamckpgijjmaaPk22
import Derived.Test.YtlhamckpgijjmaaPk07
namespace Go.Proofs.Ytlhamckpgijjmaa
open Go.RowKit Go.Shelf
set_option linter.unusedVariables false

end Go.Proofs.Ytlhamckpgijjmaa
namespace Go.Proofs.Ytlhamckpgijjmaa
open Go.RowKit Go.Shelf
set_option linter.unusedVariables false

theorem info_place (a b : Int) : (Try.prog.info? 88).map (·.size) = some (#[Value.int .i64 a, .int .i64 b]).size := by kernel_rfl
def CtP (W : World) (c : Int) (s : Nat) (r : List Int) (e : Ending) : Prop :=
  ((c < 0 ∨ ((r.length / s : Nat) : Int) < c) → e = .returned (.tuple #[.slice none 0 0, .slice none 0 0, .bool false])) ∧
  (∀ m : Nat, c = (m : Int) → m ≤ r.length / s → ∃ v1 v2, e = .returned (.tuple #[v1, v2, .bool true]) ∧ Is W v1 (r.take (m * s)) ∧ Is W v2 (r.drop (m * s)))

end Go.Proofs.Ytlhamckpgijjmaa
namespace Go.Proofs.Ytlhamckpgijjmaa
open Go.RowKit Go.Shelf
set_option linter.unusedVariables false

/-- Cells written one behind the other. -/
def setL : List Value → Nat → List Value → List Value
  | xs, _, [] => xs
  | xs, o, c :: cs => setL (xs.set o c) (o + 1) cs
theorem setL_mid : ∀ (C A P B : List Value), A.length = C.length → setL (P ++ A ++ B) P.length C = P ++ C ++ B
  | [], A, P, B, h => by
    have : A = [] := List.eq_nil_of_length_eq_zero (by simpa using h)
    subst this
    rfl
  | c :: C, [], P, B, h => by simp at h
  | c :: C, a :: A, P, B, h => by
    unfold setL
    have e : (P ++ a :: A ++ B).set P.length c = (P ++ [c]) ++ A ++ B := by simp
    have := setL_mid C A (P ++ [c]) B (by simpa using h)
    rw [List.length_append, List.length_singleton] at this
    rw [e, this]
    simp
theorem flatA_setL (k : Nat) (ks : Nat → IntKind) (L : List (Nat → Int)) (m : Nat) (c : Nat → Int) (hm : m < L.length) : setL (flatA k ks L) (m * k) (AG k ks c).toList = flatA k ks (L.set m c) := by
  have e1 : L = L.take m ++ [L[m]] ++ L.drop (m + 1) := by simp
  have e2 : L.set m c = L.take m ++ [c] ++ L.drop (m + 1) := by
    rw [List.set_eq_take_append_cons_drop, if_pos hm]; simp
  have one : ∀ x, flatA k ks [x] = (AG k ks x).toList := fun x => by simp [flatA]
  rw [e2, ← flatA_append, ← flatA_append, one]
  conv => lhs; rw [e1, ← flatA_append, ← flatA_append, one]
  have hl : (flatA k ks (L.take m)).length = m * k := by rw [flatA_len, List.length_take, Nat.min_eq_left (by omega)]
  rw [← hl]
  exact setL_mid _ _ _ _ (by rw [AG_len, AG_len])
theorem own_setL {e size base n g cap : Nat} : ∀ (cs : List Value) (o : Nat) (W : World) (xs : List Value), W.ownsRow base e size (.slice (some ⟨g, 0, none⟩) n cap) n xs →
    (W.setCells g o cs).ownsRow base e size (.slice (some ⟨g, 0, none⟩) n cap) n (setL xs o cs) ∧ Chg g W (W.setCells g o cs)
  | [], o, W, xs, h => ⟨h, Chg.refl _ _⟩
  | c :: cs, o, W, xs, h => by
    have h1 := (h.stored o c).1
    obtain ⟨h2, h3⟩ := own_setL cs (o + 1) _ _ h1
    exact ⟨h2, (chg_set _ _ _ _).trans h3⟩
theorem so_stored {e : TypeId} {k : Nat} {ks : Nat → IntKind} {W : World} {base n g cap m : Nat} {L : List (Nat → Int)} (hk : 0 < k) (h : W.ownsRow base e k (.slice (some ⟨g, 0, none⟩) n cap) n (flatA k ks L)) (hm : m < n) (c : Nat → Int) :
    (W.setCells g (m * k) (AG k ks c).toList).ownsRow base e k (.slice (some ⟨g, 0, none⟩) n cap) n (flatA k ks (L.set m c)) ∧ Chg g W (W.setCells g (m * k) (AG k ks c).toList) ∧ W.there g (m * k) (AG k ks c).size := by
  have hlen : L.length = n := by have := h.1; rw [flatA_len] at this; exact Nat.eq_of_mul_eq_mul_right hk this
  obtain ⟨h1, h2⟩ := own_setL (AG k ks c).toList (m * k) W _ h
  rw [flatA_setL k ks L m c (by omega)] at h1
  refine ⟨h1, h2, fun j hj => ⟨?_, h.frozenAt _⟩⟩
  obtain ⟨_, _, e, _, _, _, _, hc⟩ := own_cells h (by simp)
  cases e
  rw [AG_size] at hj
  rw [hc _ _ (flatA_at k ks L m _ (List.getElem?_eq_getElem (by omega)) j _ (AG_at k ks _ j hj))]
  rfl
theorem made_A (k : Nat) (ks : Nat → IntKind) (hk : 0 < k) (n : Nat) : (madeCells (Value.agg (AG k ks zc)).cells (n * k)).toList = flatA k ks (List.replicate n zc) := by
  apply List.ext_getElem?
  intro j
  by_cases hj : j < n * k
  · have hm : j % k < k := Nat.mod_lt _ hk
    have hd : j / k < n := Nat.div_lt_of_lt_mul (by rwa [Nat.mul_comm])
    have := flatA_at k ks (List.replicate n zc) (j / k) zc (by simp [hd]) (j % k) _ (AG_at k ks zc _ hm)
    rw [Nat.mul_comm, Nat.div_add_mod] at this
    rw [this]
    simp [madeCells, Value.cells, hj, AG, hm]
  · rw [List.getElem?_eq_none (by simp [madeCells]; omega), List.getElem?_eq_none (by rw [flatA_len, List.length_replicate]; omega)]
section
variable {ops : Array Oper} {rest : List Oper} {o : Oper} {a : Act} {w : World} {Q : Exit → Act → World → Prop}
/-- 'make' of so many structs. -/
theorem mk_so (hw : Region.wanted o (yielded ops a.tmps) = true) {t e : TypeId} {k bytes : Nat} {ks : Nat → IntKind} (hk : 0 < k) (ht : Try.prog.underlying t = some (.slice e)) (hinf : (Try.prog.info? e).map (fun i => (i.zero, i.size, i.bytes)) = some (some (.agg (AG k ks zc)), k, bytes))
    {x y : Operand} (ho : o.op = .makeSlice t x y) {c : Nat} (hx : a.eval x = .int .i64 (c : Int)) (hy : a.eval y = .int .i64 (c : Int)) (hb : bytes * c ≤ 281474976710656) (hc : c ≤ 1000000000)
    (h : ∀ W', W'.ownsRow w.heap.size e k (.slice (some ⟨w.heap.size, 0, none⟩) c c) c (flatA k ks (List.replicate c zc)) → Below w.heap.size w W' → wpList Try.prog ops Q rest (a.put o.dst (.slice (some ⟨w.heap.size, 0, none⟩) c c)) W') : wpList Try.prog ops Q (o :: rest) a w := by
  obtain ⟨i, hi, hz0, hz1, hz2⟩ := info_parts hinf
  obtain ⟨w', hr, ho', hg⟩ := run_make_full (P := Try.prog) w w.heap.size t e i _ k ht hi hz0 hz1 .i64 .i64 c (by rw [hz2]; exact hb) (by unfold maxLen; omega) (Nat.le_refl _)
  rw [made_A k ks hk] at ho'
  unfold wpList
  rw [if_pos hw]
  left
  unfold Oper.wp execOp
  simp only [ho, Sem.run_bind, hx, hy, hr, Result.andThen_ok]
  exact h _ ho' (below_grown (Below.refl _ _) hg)
/-- A struct into the middle of an own row: at one operation. -/
theorem soW {K : Act → World → Prop} (d : Option Tmp) (hd : o.dst = d) {e : TypeId} {k : Nat} {ks : Nat → IntKind} (hk : 0 < k) (hi : (Try.prog.info? e).map (·.size) = some k) {x y : Operand} (ho : o.op = .store e x y) {base n g cap m : Nat} {L : List (Nat → Int)}
    (h : w.ownsRow base e k (.slice (some ⟨g, 0, none⟩) n cap) n (flatA k ks L)) (hm : m < n) (c : Nat → Int) (hx : a.eval x = .pointer (some ⟨g, m * k, none⟩)) (hy : a.eval y = .agg (AG k ks c))
    (hK : ∀ W', W'.ownsRow base e k (.slice (some ⟨g, 0, none⟩) n cap) n (flatA k ks (L.set m c)) → Chg g w W' → K (a.put d undef) W') : o.wp Try.prog a w K Q := by
  subst hd
  obtain ⟨h1, h2, h3⟩ := so_stored hk h hm c
  exact wp_store_mid e x y ho g (m * k) (AG k ks c) hx hy h3 (by rw [AG_size]; exact hi) (by rw [Array.all_eq_true']; intro x hx; exact AG_one k ks c x (by simpa using hx)) (hK _ h1 h2)
end

theorem info_opz : (Try.prog.info? 86).map (·.size) = some 5 := by kernel_rfl
/-- Operations of numbers. -/
def opAt (l : List Int) (j : Nat) : Nat → Int := fun i => l.getD (5 * j + i) 0
def opsL (l : List Int) (m : Nat) : List (Nat → Int) := (List.range m).map (opAt l)
theorem opsL_len (l : List Int) (m : Nat) : (opsL l m).length = m := by simp [opsL]
/-- As far as they are written. -/
def opsU (l : List Int) (m j : Nat) : List (Nat → Int) := opsL l j ++ List.replicate (m - j) zc
theorem opsU_next (l : List Int) (m j : Nat) (h : j < m) : (opsU l m j).set j (opAt l j) = opsU l m (j + 1) := by
  obtain ⟨d, rfl⟩ : ∃ d, m = j + d + 1 := ⟨m - j - 1, by omega⟩
  unfold opsU
  rw [List.set_append_right _ _ (by simp [opsL]), opsL_len, Nat.sub_self, show j + d + 1 - j = d + 1 by omega, show j + d + 1 - (j + 1) = d by omega, List.replicate_succ, List.set_cons_zero]
  unfold opsL
  rw [List.range_succ, List.map_append, List.append_assoc]
  rfl
theorem opsU_end (l : List Int) (m : Nat) : opsU l m m = opsL l m := by simp [opsU]

end Go.Proofs.Ytlhamckpgijjmaa
