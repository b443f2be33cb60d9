/-
  Rows of places and cells as sources of copies; estuarylaw03.same at one row of cells.
-/
import Derived.Test.YtffgndmcamedaaaPlaceR
namespace Go.Proofs.Ytffgndmcamedaaa
open Go.RowKit
set_option linter.unusedVariables false
attribute [local go_sem] res_fold

theorem flat2_inv (L : List (Int × Int)) : ∀ (j : Nat) (u : Value), (flat2 L)[j]? = some u → ∃ m x, L[m]? = some x ∧ ((j = m * 2 ∧ u = .int .i64 x.1) ∨ (j = m * 2 + 1 ∧ u = .int .i64 x.2)) := by
  induction L with
  | nil => intro j u h; simp [flat2] at h
  | cons y r ih =>
    intro j u h
    rw [flat2_cons] at h
    match j with
    | 0 => simp at h; exact ⟨0, y, rfl, .inl ⟨rfl, h.symm⟩⟩
    | 1 => simp at h; exact ⟨0, y, rfl, .inr ⟨rfl, h.symm⟩⟩
    | j + 2 =>
      rw [List.getElem?_append_right (by simp)] at h
      obtain ⟨m, x, hm, hx⟩ := ih j u (by simpa using h)
      refine ⟨m + 1, x, by simpa using hm, ?_⟩
      rcases hx with ⟨e, hu⟩ | ⟨e, hu⟩
      · exact .inl ⟨by omega, hu⟩
      · exact .inr ⟨by omega, hu⟩
theorem row2_src {W : World} {q : Option Addr} {g off n : Nat} {L : List (Int × Int)} (h : Row2 W g off L) (hn : L.length = n) (hp : 0 < n → q = some ⟨g, off, none⟩) : ∀ ad, q = some ad → ∀ j u, (flat2 L)[j]? = some u → W.cell? (ad.add j) = some u := by
  intro ad had j u hu
  obtain ⟨m, x, hm, hx⟩ := flat2_inv L j u hu
  have hlt := (List.getElem?_eq_some_iff.1 hm).1
  rw [hp (by omega)] at had
  cases had
  obtain ⟨h1, h2⟩ := h m x hm
  rw [Addr.add_mid]
  rcases hx with ⟨rfl, rfl⟩ | ⟨rfl, rfl⟩
  · exact h1
  · exact h2
theorem irow_src {W : World} {q : Option Addr} {g off n : Nat} {l : List Int} (h : IRow W g off l) (hn : l.length = n) (hp : 0 < n → q = some ⟨g, off, none⟩) : ∀ ad, q = some ad → ∀ j u, (ints l)[j]? = some u → W.cell? (ad.add j) = some u := by
  intro ad had j u hu
  rw [ints_at] at hu
  cases hx : l[j]? with
  | none => rw [hx] at hu; cases hu
  | some x =>
    rw [hx] at hu
    cases hu
    have hlt := (List.getElem?_eq_some_iff.1 hx).1
    rw [hp (by omega)] at had
    cases had
    rw [Addr.add_mid]
    exact h j x hx
theorem infoPlc : (Try.prog.info? 23).map (fun i => (i.zero, i.size, i.bytes)) = some (some (.agg #[.int .i64 0, .int .i64 0]), 2, 16) := by kernel_rfl

set_option maxHeartbeats 400000 in
theorem same_any (q : Option Addr) (g off n cap : Nat) (q' : Option Addr) (g' off' cap' : Nat) (L : List (Int × Int × Int)) (w : World) (hn : L.length = n) (hb : n ≤ 100000) (hp : 0 < n → q = some ⟨g, off, none⟩) (hg : 0 < n → g < w.heap.size) (hr : Row3 w g off L)
    (hp' : 0 < n → q' = some ⟨g', off', none⟩) (hg' : 0 < n → g' < w.heap.size) (hr' : Row3 w g' off' L) :
    Calls Try.prog 25 #[.slice q n cap, .slice q' n cap'] w fun e w' => e = .returned (.bool true) ∧ Below w.heap.size w w' := by
  go_enter Try.func25, Try.ntmps25
  go_wp2_with fail
  go_loopw [13] (fun i wr => ∃ k : Nat, k ≤ n ∧ i = .int .i64 (k : Int) ∧ Below w.heap.size w wr) (fun i _ => n - (intOf i).toNat)
  case atStart => exact ⟨0, by omega, rfl, Below.refl _ _⟩
  case round =>
    obtain ⟨k, hk, rfl, hw⟩ := hrel
    by_cases c : k = n
    · subst c
      clear hr hr'
      go_wp2_with fail
      go_ret
      exact ⟨rfl, hw⟩
    · obtain ⟨x, hx⟩ : ∃ x, L[k]? = some x := ⟨L[k], List.getElem?_eq_getElem (by omega)⟩
      obtain ⟨x0, x1, x2⟩ := hr k x hx
      obtain ⟨y0, y1, y2⟩ := hr' k x hx
      obtain rfl := hp (by omega)
      obtain rfl := hp' (by omega)
      have h1 := hg (by omega)
      have h2 := hg' (by omega)
      have a0 := keep_cell hw x0 h1
      have a1 := keep_cell hw x1 h1
      have a2 := keep_cell hw x2 h1
      have b0 := keep_cell hw y0 h2
      have b1 := keep_cell hw y1 h2
      have b2 := keep_cell hw y2 h2
      have hki : (k : Int) < (n : Int) := by omega
      clear hr hr' x0 x1 x2 y0 y1 y2 hx
      go_upto_region 6 with fail
      go_quiet (fail)
      go_wp2_with fail
      go_roundw
      case rel => exact ⟨k + 1, by omega, by go_num, ab_drewN hw _⟩
      case measure => simp [intOf]; omega
end Go.Proofs.Ytffgndmcamedaaa
