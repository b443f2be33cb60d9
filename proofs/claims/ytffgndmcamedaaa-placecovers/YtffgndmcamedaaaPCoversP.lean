/-
  Places that rise; a place written into a row of places.
-/
import Derived.Test.YtffgndmcamedaaaPlaceC
namespace Go.Proofs.Ytffgndmcamedaaa
open Go.RowKit
set_option linter.unusedVariables false

def Fit2 (H : List (Int × Int)) : Prop := ∀ (j : Nat) (h : Int × Int), H[j]? = some h → (-9223372036854775808 ≤ h.1 ∧ h.1 ≤ 9223372036854775807) ∧ (-9223372036854775808 ≤ h.2 ∧ h.2 ≤ 9223372036854775807)
/-- Each place of H isn't ahead of its place of pls. -/
def Rises (pls H : List (Int × Int)) : Prop := ∀ (j : Nat) (p h : Int × Int), pls[j]? = some p → H[j]? = some h → pl h.1 h.2 p.1 p.2 = false
theorem pl_irr (a k : Int) : pl a k a k = false := by unfold pl; exact decide_eq_false (by omega)
theorem rises_refl (pls : List (Int × Int)) : Rises pls pls := by
  intro j p h hp hh
  rw [hp] at hh; cases hh
  exact pl_irr _ _
theorem af_fit {a k : Int} (h : (-9223372036854775808 ≤ a ∧ a ≤ 9223372036854775807) ∧ (-9223372036854775808 ≤ k ∧ k ≤ 9223372036854775807)) : (-9223372036854775808 ≤ afW a k ∧ afW a k ≤ 9223372036854775807) ∧ (-9223372036854775808 ≤ afK a k ∧ afK a k ≤ 9223372036854775807) := by
  by_cases c : k < 9223372036854775807
  · obtain ⟨e1, e2, -⟩ := af_1 (w := a) c
    rw [e1, e2]; omega
  · by_cases d : a < 9223372036854775807
    · obtain ⟨e1, e2, -⟩ := af_2 (w := a) c d
      rw [e1, e2]; omega
    · obtain ⟨e1, e2, -⟩ := af_3 (w := a) c d
      rw [e1, e2]; omega
theorem af_rise {a k p0 p1 : Int} (h : pl a k p0 p1 = false) (h1 : p1 ≤ 9223372036854775807) : pl (afW a k) (afK a k) p0 p1 = false := by
  unfold pl at *
  have hh := of_decide_eq_false h
  refine decide_eq_false ?_
  by_cases c : k < 9223372036854775807
  · obtain ⟨e1, e2, -⟩ := af_1 (w := a) c
    rw [e1, e2]; omega
  · by_cases d : a < 9223372036854775807
    · obtain ⟨e1, e2, -⟩ := af_2 (w := a) c d
      rw [e1, e2]; omega
    · obtain ⟨e1, e2, -⟩ := af_3 (w := a) c d
      rw [e1, e2]; omega
theorem rises_set {pls H : List (Int × Int)} {m : Nat} {h : Int × Int} (hr : Rises pls H) (hm : H[m]? = some h) (hf : Fit2 pls) : Rises pls (H.set m (afW h.1 h.2, afK h.1 h.2)) := by
  intro j p x hp hx
  by_cases e : j = m
  · subst e
    have hlt := (List.getElem?_eq_some_iff.1 hm).1
    rw [List.getElem?_set_self hlt] at hx
    cases hx
    exact af_rise (hr j p h hp hm) (hf j p hp).2.2
  · rw [List.getElem?_set_ne (fun h => e h.symm)] at hx
    exact hr j p x hp hx
theorem fit_set {H : List (Int × Int)} {m : Nat} {x : Int × Int} (hf : Fit2 H) (hx : (-9223372036854775808 ≤ x.1 ∧ x.1 ≤ 9223372036854775807) ∧ (-9223372036854775808 ≤ x.2 ∧ x.2 ≤ 9223372036854775807)) : Fit2 (H.set m x) := by
  intro j h hh
  by_cases e : j = m
  · subst e
    have hlt : j < H.length := by have := (List.getElem?_eq_some_iff.1 hh).1; simpa using this
    rw [List.getElem?_set_self hlt] at hh
    cases hh; exact hx
  · rw [List.getElem?_set_ne (fun h => e h.symm)] at hh
    exact hf j h hh
theorem cov_mono {pls H : List (Int × Int)} (hr : Rises pls H) (hl : H.length = pls.length) {x : Int × Int × Int} (h : cov1 pls x = true) : cov1 H x = true := by
  unfold cov1 at *
  by_cases c : 0 ≤ x.1
  · rw [if_pos c] at *
    cases hp : pls[x.1.toNat]? with
    | none => rw [hp] at h; cases h
    | some p =>
      rw [hp] at h
      have hlt := (List.getElem?_eq_some_iff.1 hp).1
      obtain ⟨y, hy⟩ : ∃ y, H[x.1.toNat]? = some y := ⟨H[x.1.toNat]'(by omega), List.getElem?_eq_getElem (by omega)⟩
      rw [hy]
      have h2 := hr _ p y hp hy
      dsimp only at h ⊢
      unfold pl at *
      have := of_decide_eq_true h
      have := of_decide_eq_false h2
      exact decide_eq_true (by omega)
  · rw [if_neg c] at h; cases h
theorem covL_mono {pls H : List (Int × Int)} (hr : Rises pls H) (hl : H.length = pls.length) {L : List (Int × Int × Int)} (h : covL pls L = true) : covL H L = true := by
  unfold covL at *
  rw [Bool.and_eq_true, List.all_eq_true] at *
  exact ⟨h.1, fun x hx => cov_mono hr hl (h.2 x hx)⟩
theorem covL_none {pls : List (Int × Int)} {L : List (Int × Int × Int)} (h : ∀ x ∈ L, cov1 pls x = false) : covL pls L = false := by
  unfold covL
  cases L with
  | nil => rfl
  | cons x r =>
    have := h x (by simp)
    simp [this]
theorem cov_least {n : Nat} {x : Int × Int × Int} (h1 : -9223372036854775808 ≤ x.2.1) (h2 : -9223372036854775808 ≤ x.2.2) : cov1 (List.replicate n (-9223372036854775808, -9223372036854775808)) x = false := by
  unfold cov1
  split
  · split
    · rename_i p hp
      have := List.eq_of_mem_replicate (List.mem_of_getElem? hp)
      subst this
      unfold pl
      exact decide_eq_false (by dsimp only; omega)
    · rfl
  · rfl
theorem covL_least (t key sh : Int) (l : List Int) (n : Nat) (h0 : -9223372036854775808 ≤ t) (h1 : t ≤ 9223372036854775807) (k0 : -9223372036854775808 ≤ key) : covL (List.replicate n (-9223372036854775808, -9223372036854775808)) (idL t key sh l) = false := by
  apply covL_none
  intro x hx
  obtain ⟨j, hj, e⟩ := List.mem_iff_getElem.1 hx
  have hx' : (idL t key sh l)[j]? = some x := by rw [List.getElem?_eq_getElem hj, e]
  rw [idL_at] at hx'
  obtain ⟨r, -, rfl⟩ := Option.map_eq_some_iff.1 hx'
  exact cov_least (flD_bd t r h0 h1).1 k0
theorem covL_nil (pls : List (Int × Int)) (t key sh : Int) : covL pls (idL t key sh []) = false := rfl

theorem flat2_set (L : List (Int × Int)) : ∀ (m : Nat) (x : Int × Int), m < L.length → ((flat2 L).set (m * 2) (.int .i64 x.1)).set (m * 2 + 1) (.int .i64 x.2) = flat2 (L.set m x) := by
  induction L with
  | nil => intro m x h; simp at h
  | cons y r ih =>
    intro m x h
    cases m with
    | zero => simp [flat2]
    | succ m =>
      rw [List.set_cons_succ, flat2_cons, flat2_cons, ← ih m x (by simpa using h)]
      rw [show (m + 1) * 2 = m * 2 + 2 by omega, show m * 2 + 2 + 1 = (m * 2 + 1) + 2 by omega]
      simp
/-- A place into an own row of places. -/
theorem pl_stored {W : World} {base n g cap m : Nat} {L : List (Int × Int)} (h : W.ownsRow base 23 2 (.slice (some ⟨g, 0, none⟩) n cap) n (flat2 L)) (hm : m < n) (x y : Int) :
    (W.setCells g (m * 2) [.int .i64 x, .int .i64 y]).ownsRow base 23 2 (.slice (some ⟨g, 0, none⟩) n cap) n (flat2 (L.set m (x, y))) ∧ Chg g W (W.setCells g (m * 2) [.int .i64 x, .int .i64 y]) ∧ W.there g (m * 2) 2 := by
  have hlen : L.length = n := by have := h.1; rw [flat2_len] at this; omega
  have h1 := (h.stored (m * 2) (.int .i64 x)).1
  have h2 := (h1.stored (m * 2 + 1) (.int .i64 y)).1
  rw [flat2_set L m (x, y) (by omega)] at h2
  refine ⟨h2, (chg_set _ _ _ _).trans (chg_set _ _ _ _), fun j hj => ⟨?_, h.frozenAt _⟩⟩
  obtain ⟨_, _, e, _, _, _, _, hc⟩ := own_cells h (by simp)
  cases e
  obtain ⟨p, hp⟩ : ∃ p, L[m]? = some p := ⟨L[m], List.getElem?_eq_getElem (by omega)⟩
  obtain ⟨e1, e2⟩ := flat2_at L m p hp
  match j, hj with
  | 0, _ => rw [Nat.add_zero, hc _ _ e1]; rfl
  | 1, _ => rw [hc _ _ e2]; rfl
theorem st_pl {ops : Array Oper} {rest : List Oper} {o : Oper} {a : Act} {w : World} {Q : Exit → Act → World → Prop} (hgd : o.guard = none) {x y : Operand} (ho : o.op = .store 23 x y) {base n g cap : Nat} {L : List (Int × Int)}
    (h : w.ownsRow base 23 2 (.slice (some ⟨g, 0, none⟩) n cap) n (flat2 L)) {m : Nat} (hm : m < n) {u v : Int} (hx : a.eval x = .pointer (some ⟨g, m * 2, none⟩)) (hy : a.eval y = Plc u v)
    (hK : ∀ W', W'.ownsRow base 23 2 (.slice (some ⟨g, 0, none⟩) n cap) n (flat2 (L.set m (u, v))) → Chg g w W' → wpList Try.prog ops Q rest (a.put o.dst undef) W') : wpList Try.prog ops Q (o :: rest) a w := by
  obtain ⟨h1, h2, h3⟩ := pl_stored h hm u v
  exact wpList_store_mid hgd 23 x y ho g (m * 2) #[.int .i64 u, .int .i64 v] hx hy h3 info_plc (by simp [Value.oneCell']) (hK _ h1 h2)
theorem own_chgP {W W' : World} {base n g cap b : Nat} {l : List Value} {e size : Nat} (h : W.ownsRow base e size (.slice (some ⟨g, 0, none⟩) n cap) n l) (hc : Chg b W W') (hn : g ≠ b) : W'.ownsRow base e size (.slice (some ⟨g, 0, none⟩) n cap) n l := by
  refine ⟨h.1, ?_⟩
  rcases h.2 with ⟨h2, _⟩ | ⟨g', cap', cur, e, hb, hg, h4⟩
  · cases h2
  · cases e
    exact .inr ⟨g, cap, cur, rfl, hb, Blk.chg hg hc hn, h4⟩
/-- The least places, as far as they are written. -/
def lst (n i : Nat) : List (Int × Int) := List.replicate i (-9223372036854775808, -9223372036854775808) ++ List.replicate (n - i) (0, 0)
theorem lst_len {n i : Nat} (h : i ≤ n) : (lst n i).length = n := by simp [lst]; omega
theorem lst_next {n i : Nat} (h : i < n) : (lst n i).set i (-9223372036854775808, -9223372036854775808) = lst n (i + 1) := by
  obtain ⟨d, rfl⟩ : ∃ d, n = i + d + 1 := ⟨n - i - 1, by omega⟩
  unfold lst
  rw [List.set_append_right _ _ (by simp), List.length_replicate, Nat.sub_self, show i + d + 1 - i = d + 1 by omega, show i + d + 1 - (i + 1) = d by omega, List.replicate_succ (n := d), List.set_cons_zero, List.replicate_succ' (n := i), List.append_assoc]
  rfl
theorem lst_end (n : Nat) : lst n n = List.replicate n (-9223372036854775808, -9223372036854775808) := by unfold lst; simp
theorem made_plc (n : Nat) : (madeCells (Value.agg #[.int .i64 0, .int .i64 0]).cells (n * 2)).toList = flat2 (lst n 0) := by
  apply List.ext_getElem?
  intro j
  have hz : ∀ m, (List.replicate n ((0, 0) : Int × Int))[m]? = if m < n then some (0, 0) else none := fun m => by
    by_cases h : m < n <;> simp [h]
  have e : flat2 (lst n 0) = List.replicate (n * 2) (.int .i64 0) := by
    unfold lst
    simp only [List.replicate_zero, List.nil_append, Nat.sub_zero]
    induction n with
    | zero => rfl
    | succ n ih =>
      rw [List.replicate_succ, flat2_cons, ih (fun m => by by_cases h : m < n <;> simp [h]), Nat.add_mul, Nat.one_mul]
      rfl
  rw [e]
  by_cases hj : j < n * 2
  · have : j % 2 = 0 ∨ j % 2 = 1 := by omega
    rcases this with h | h <;> simp [madeCells, Value.cells, hj, h]
  · simp [madeCells, Value.cells, hj]
end Go.Proofs.Ytffgndmcamedaaa
