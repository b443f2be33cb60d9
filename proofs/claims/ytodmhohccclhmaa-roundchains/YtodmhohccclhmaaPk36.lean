/-
  A net's rounds and changes as a law reads them; the last round that is done with a lesser ballot, step by step.
-/
import Derived.Test.YtodmhohccclhmaaPk34
import Derived.Test.YtodmhohccclhmaaPk31
namespace Go.Proofs.Ytodmhohccclhmaa
open Go.RowKit
set_option linter.unusedVariables false
set_option maxRecDepth 100000

theorem RdE.keep {W W' : World} {b : Nat} {R : Rd} (h : RdE W b R) (hb : Below W.heap.size W W') : RdE W' b R := by
  obtain ⟨vv, h10, h11⟩ := h.c10
  exact ⟨fun V k => h.c1 V (ab_trans hb k), fun V k => h.c2 V (ab_trans hb k), fun V k => h.c3 V (ab_trans hb k), fun V k => h.c7 V (ab_trans hb k), vv, fun V k => h10 V (ab_trans hb k), fun V k => h11 V (ab_trans hb k)⟩
theorem Nw.rdx {W0 W : World} {B wb : Nat} {P : NwP} {S : Net} (h : Nw W0 W B wb P S) {i : Nat} {R : Rd} (hi : S.rd[i]? = some R) :
    ∃ gd cd b, P.rv = .slice (some ⟨gd, 0, none⟩) S.rd.length cd ∧ S.rd.length ≤ cd ∧ cd ≤ 9223372036854775807 ∧ (∀ V, Below W.heap.size W V → V.cell? ⟨gd, i, none⟩ = some (rptr b)) ∧ RdE W b R := by
  obtain ⟨gd, cd, t, e, h1, h2, -, h3, h4⟩ := h.round hi
  exact ⟨gd, cd, t.1, e, h1, h2, h3, h4.rde⟩
/-- Of a row of rounds the block is one. -/
theorem rdx_same {gd gd' n cd cd' : Nat} {v : Value} (h : v = .slice (some ⟨gd, 0, none⟩) n cd) (h' : v = .slice (some ⟨gd', 0, none⟩) n cd') : gd' = gd ∧ cd' = cd := by
  rw [h] at h'
  injection h' with a b c
  injection a with a
  injection a with a
  exact ⟨a.symm, c.symm⟩
theorem Nw.chx {W0 W : World} {B wb : Nat} {P : NwP} {S : Net} (h : Nw W0 W B wb P S) {i : Nat} {R : Rd} (hi : S.rd[i]? = some R) :
    ∃ gc cc vo vn, P.cv = .slice (some ⟨gc, 0, none⟩) S.rd.length cc ∧ S.rd.length ≤ cc ∧ cc ≤ 9223372036854775807 ∧ ∀ V, Below W.heap.size W V → V.cell? ⟨gc, i * 3, none⟩ = some (.int .i64 R.c.k) ∧ V.cell? ⟨gc, i * 3 + 1, none⟩ = some vo ∧ V.cell? ⟨gc, i * 3 + 2, none⟩ = some vn ∧ Is V vo R.c.o ∧ Is V vn R.c.n := by
  have hil : i < S.rd.length := (List.getElem?_eq_some_iff.1 hi).1
  obtain ⟨c, hc⟩ : ∃ t, P.cds[i]? = some t := ⟨P.cds[i]'(by rw [h.size.2.1]; exact hil), List.getElem?_eq_getElem _⟩
  have he : cgOf c = R.c := by
    have h1 : (P.cds.map cgOf)[i]? = some (cgOf c) := by rw [List.getElem?_map, hc]; rfl
    rw [h.chr, List.getElem?_map, hi] at h1
    injection h1 with h1
    exact h1.symm
  have hne : P.cv ≠ .slice none 0 0 := fun e => by
    rcases h.chs.2 with ⟨-, e2⟩ | ⟨g, cap, cur, e2, _⟩
    · omega
    · rw [e] at e2; cases e2
  obtain ⟨gd, cd, e, h1, h2, h3, h4, h5⟩ := own_cells h.chs hne
  have hi2 := h.chi c (List.mem_of_getElem? hc)
  have hk := h.keep (W' := W) (Below.refl _ _)
  refine ⟨gd, cd, c.vo, c.vn, e, h3, by unfold maxLen at h4; omega, fun V hb => ⟨?_, ?_, ?_, ?_, ?_⟩⟩
  · rw [← he]; exact keep_cell hb (h5 (i * 3) _ (by have := fl_at encG_len hc (i := 0) (by omega); rw [Nat.add_zero] at this; rw [this]; rfl)) h2
  · exact keep_cell hb (h5 (i * 3 + 1) _ (by rw [fl_at encG_len hc (by omega)]; rfl)) h2
  · exact keep_cell hb (h5 (i * 3 + 2) _ (by rw [fl_at encG_len hc (by omega)]; rfl)) h2
  · rw [← he]; exact (hi2.1.is h.old).keep hb
  · rw [← he]; exact (hi2.2.is h.old).keep hb
/-- Low is the last round that is done with a lesser ballot, of those ahead of k. -/
def LowI (S : Net) (R : Rd) (k : Nat) (low : Int) : Prop := (low = -1 ∧ ∀ d D, d < k → S.rd[d]? = some D → D.st = 3 → lt3 D.b R.b = false) ∨
  ∃ (d : Nat) (D : Rd), low = (d : Int) ∧ S.rd[d]? = some D ∧ D.st = 3 ∧ lt3 D.b R.b = true ∧ ∀ d' D', d' < k → S.rd[d']? = some D' → D'.st = 3 → lt3 D'.b R.b = true → lt3 D.b D'.b = false
theorem low_0 (S : Net) (R : Rd) : LowI S R 0 (-1) := .inl ⟨rfl, fun d D hd => (by omega)⟩
theorem low_no {S : Net} {R Q : Rd} {k : Nat} {low : Int} (h : LowI S R k low) (hQ : S.rd[k]? = some Q) (hn : Q.st = 3 → lt3 Q.b R.b = true → low ≠ -1 ∧ ∀ (d : Nat) (D : Rd), low = (d : Int) → S.rd[d]? = some D → lt3 D.b Q.b = false) : LowI S R (k + 1) low := by
  rcases h with ⟨e, h⟩ | ⟨d, D, e, hD, h3, hl, h⟩
  · refine .inl ⟨e, fun d D hd hD h3 => ?_⟩
    by_cases hk : d = k
    · subst hk
      rw [hQ] at hD
      cases hD
      cases hb : lt3 Q.b R.b
      · rfl
      · exact absurd e (hn h3 hb).1
    · exact h d D (by omega) hD h3
  · refine .inr ⟨d, D, e, hD, h3, hl, fun d' D' hd hD' h3' hl' => ?_⟩
    by_cases hk : d' = k
    · subst hk
      rw [hQ] at hD'
      cases hD'
      exact (hn h3' hl').2 d D e hD
    · exact h d' D' (by omega) hD' h3' hl'
theorem low_yes {S : Net} {R Q : Rd} {k : Nat} {low : Int} (h : LowI S R k low) (hQ : S.rd[k]? = some Q) (h3 : Q.st = 3) (hl : lt3 Q.b R.b = true) (hn : ∀ (d : Nat) (D : Rd), low = (d : Int) → S.rd[d]? = some D → lt3 D.b Q.b = true) : LowI S R (k + 1) (k : Int) := by
  refine .inr ⟨k, Q, rfl, hQ, h3, hl, fun d' D' hd hD' h3' hl' => ?_⟩
  by_cases hk : d' = k
  · subst hk
    rw [hQ] at hD'
    cases hD'
    exact leK_refl _
  · rcases h with ⟨e, h⟩ | ⟨d, D, e, hD, h3, hl, h⟩
    · rw [h d' D' (by omega) hD' h3'] at hl'
      cases hl'
    · have h1 : lt3 D.b D'.b = false := h d' D' (by omega) hD' h3' hl'
      have h2 := hn d D e hD
      cases hx : lt3 Q.b D'.b
      · rfl
      · have := lt3_trans h2 hx
        rw [h1] at this
        cases this
/-- What is found of a chain. -/
def LowC (S : Net) (low : Int) (Q : Rd) : Prop := low = -1 ∨ ∃ (d : Nat) (D : Rd), low = (d : Int) ∧ S.rd[d]? = some D ∧ lt3 Q.b D.b = false
def FndI (S : Net) (R : Rd) (low : Int) (k : Nat) (f : Bool) : Prop := (low = -1 → aft [] R.c R.v = true → f = true) ∧ ∀ (j : Nat) (Q : Rd), j < k → S.rd[j]? = some Q → lt3 Q.b R.b = true → LowC S low Q → Q.st ≠ 1 → aft Q.v R.c R.v = true → f = true
theorem fnd_ok {acc : Nat → Nat → Prop} {S : Net} (h : Inv acc S) {i : Nat} {R : Rd} {low : Int} {f : Bool} (hi : S.rd[i]? = some R) (hs : R.st ≠ 1) (h4 : R.st = 4 → R.v ≠ []) (hl : LowI S R S.rd.length low) (hf : FndI S R low S.rd.length f) : f = true := by
  have lt : ∀ {d : Nat} {D : Rd}, S.rd[d]? = some D → d < S.rd.length := fun h => (List.getElem?_eq_some_iff.1 h).1
  rcases chain_ok h hi hs h4 with ⟨a, hd⟩ | ⟨j, Q, hj, h1, ha, hb, hd⟩
  · rcases hl with ⟨e, -⟩ | ⟨d, D, e, hD, h3, hl, -⟩
    · exact hf.1 e a
    · rw [hd d D hD h3] at hl
      cases hl
  · refine hf.2 j Q (lt hj) hj hb ?_ h1 ha
    rcases hl with ⟨e, -⟩ | ⟨d, D, e, hD, h3, hl, -⟩
    · exact .inl e
    · exact .inr ⟨d, D, e, hD, hd d D hD h3 hl⟩
theorem rdok_c {R : Rd} (h : RdOK R) : R.c.o.length ≤ 1000 ∧ R.c.n.length ≤ 1000 := by
  have := h.gd
  unfold gdG gdC at this
  simp only [Bool.or_eq_true, Bool.and_eq_true, decide_eq_true_eq] at this
  omega
theorem fnd_0 {S : Net} {R : Rd} {low : Int} {f : Bool} (h : (decide (low < 0) && aft [] R.c R.v) = f) : FndI S R low 0 f :=
  ⟨fun hl ha => by rw [← h, hl, ha]; rfl, fun j Q hj => (by omega)⟩
theorem fnd_no {S : Net} {R Q : Rd} {low : Int} {k : Nat} {f : Bool} (h : FndI S R low k f) (hQ : S.rd[k]? = some Q) (hn : lt3 Q.b R.b = true → LowC S low Q → Q.st = 1) : FndI S R low (k + 1) f := by
  refine ⟨h.1, fun j Q' hj hQ' h1 h2 h3 h4 => ?_⟩
  by_cases hk : j = k
  · subst hk
    rw [hQ] at hQ'
    cases hQ'
    exact absurd (hn h1 h2) h3
  · exact h.2 j Q' (by omega) hQ' h1 h2 h3 h4
theorem fnd_yes {S : Net} {R Q : Rd} {low : Int} {k : Nat} {f : Bool} (h : FndI S R low k f) (hQ : S.rd[k]? = some Q) : FndI S R low (k + 1) (f || aft Q.v R.c R.v) := by
  refine ⟨fun a b => by rw [h.1 a b]; rfl, fun j Q' hj hQ' h1 h2 h3 h4 => ?_⟩
  by_cases hk : j = k
  · subst hk
    rw [hQ] at hQ'
    cases hQ'
    rw [h4, Bool.or_true]
  · rw [h.2 j Q' (by omega) hQ' h1 h2 h3 h4]
    rfl
theorem rbless_v {a b : Bt} {v : Bool} {w : World} (h : lt3 a b = v) : Calls Try.prog 14 #[bV a, bV b] w fun e w' => e = .returned (.bool v) ∧ Below w.heap.size w w' := by
  rw [← h]
  exact rbless_any a b w
end Go.Proofs.Ytodmhohccclhmaa
