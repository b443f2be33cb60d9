/-
  Plain mathematics: a sample is taken with all its cells, or not at all.
-/
import Derived.Test.YtoeilckeebojmaaPk43
namespace Go.Proofs.Ytoeilckeebojmaa
open Go.RowKit
set_option linter.unusedVariables false
set_option maxRecDepth 100000

/-- No cell is ahead of its lane's base. -/
def npB (S : Bsn) : Prop := ∀ k ∈ S.ks, pasB S.ba k = false
theorem np_drp (S : Bsn) : npB (drpB S) := fun k hk => by
  have := (List.mem_filter.1 hk).2
  show pasB S.ba k = false
  cases h : pasB S.ba k
  · rfl
  · rw [h] at this; cases this
theorem pou_same (S : Bsn) (src : Int) (o : Op5) : (pouB S src o).res = S.res ∧ (pouB S src o).sh = S.sh ∧ (pouB S src o).mo = S.mo ∧ (pouB S src o).fl = S.fl ∧ (pouB S src o).ba = S.ba := fold_same _ _ _
theorem pnc_same (S : Bsn) (i : Nat) (t : Int) : (pncB S i t).res = S.res ∧ (pncB S i t).sh = S.sh ∧ (pncB S i t).mo = S.mo ∧ (pncB S i t).ba = S.ba ∧ (pncB S i t).ks = S.ks ∧ (pncB S i t).fl.length = S.fl.length := by
  unfold pncB
  refine ⟨rfl, rfl, rfl, rfl, rfl, ?_⟩
  show (match S.fl[i]? with | some f => S.fl.set i (pncF f t) | none => S.fl).length = _
  cases S.fl[i]? with
  | none => rfl
  | some f => simp
theorem nxt_same (S : Bsn) (i : Nat) (n : Int) : (nxtB S i n).res = S.res ∧ (nxtB S i n).sh = S.sh ∧ (nxtB S i n).mo = S.mo ∧ (nxtB S i n).ba = S.ba ∧ (nxtB S i n).ks = S.ks ∧ (nxtB S i n).fl.length = S.fl.length := by
  unfold nxtB
  refine ⟨rfl, rfl, rfl, rfl, rfl, ?_⟩
  show (match S.fl[i]? with | some f => S.fl.set i { f with nx := n } | none => S.fl).length = _
  cases S.fl[i]? with
  | none => rfl
  | some f => simp
theorem np_pou {S : Bsn} (h : npB S) (src : Int) (o : Op5) : npB (pouB S src o) := fun k hk => by
  obtain ⟨-, -, -, -, hb⟩ := pou_same S src o
  rw [hb]
  rcases (fold_mem _ _ _ _).1 hk with hk | hk
  · exact h k hk
  · have := (List.mem_filter.1 hk).2
    cases h2 : pasB S.ba k
    · rfl
    · rw [h2] at this; cases this
/-- What a row of steps keeps, and what it brings. -/
structure StK (S T : Bsn) : Prop where
  res : T.res = S.res
  sh : T.sh = S.sh
  mo : T.mo = S.mo
  ba : T.ba = S.ba
  fl : T.fl.length = S.fl.length
  ks : ∀ k ∈ S.ks, k ∈ T.ks
  np : npB S → npB T
theorem StK.refl (S : Bsn) : StK S S := ⟨rfl, rfl, rfl, rfl, rfl, fun _ h => h, fun h => h⟩
theorem StK.trans {S T U : Bsn} (h : StK S T) (k : StK T U) : StK S U := ⟨k.res.trans h.res, k.sh.trans h.sh, k.mo.trans h.mo, k.ba.trans h.ba, k.fl.trans h.fl, fun x hx => k.ks x (h.ks x hx), fun hn => k.np (h.np hn)⟩
theorem stk_pnc (S : Bsn) (i : Nat) (t : Int) : StK S (pncB S i t) := by
  obtain ⟨h1, h2, h3, h4, h5, h6⟩ := pnc_same S i t
  exact ⟨h1, h2, h3, h4, h6, fun k hk => by rw [h5]; exact hk, fun hn k hk => by rw [h4]; rw [h5] at hk; exact hn k hk⟩
theorem stk_nxt (S : Bsn) (i : Nat) (t : Int) : StK S (nxtB S i t) := by
  obtain ⟨h1, h2, h3, h4, h5, h6⟩ := nxt_same S i t
  exact ⟨h1, h2, h3, h4, h6, fun k hk => by rw [h5]; exact hk, fun hn k hk => by rw [h4]; rw [h5] at hk; exact hn k hk⟩
theorem stk_pou (S : Bsn) (src : Int) (o : Op5) : StK S (pouB S src o) := by
  obtain ⟨h1, h2, h3, h4, h5⟩ := pou_same S src o
  exact ⟨h1, h2, h3, h5, by rw [h4], fun k hk => (fold_mem _ _ _ _).2 (.inl hk), fun hn => np_pou hn src o⟩
theorem ids_stk {S T : Bsn} (h : StK S T) (o : Op5) : idsB T o = idsB S o := by unfold idsB; rw [h.res, h.sh, h.ba]
theorem stk_fold (i : Nat) : ∀ (l : List Op5) (S : Bsn), StK S (l.foldl (stpB i) (S, none)).1
  | [], S => StK.refl S
  | o :: l, S => by
    rw [List.foldl_cons]
    by_cases hk : o.k = 2
    · rw [stp_mark hk]
      exact (stk_pnc S i o.t).trans (stk_fold i l _)
    · cases hr : rooB S o
      · rw [stp_full hk hr, stp_stuck]
        exact StK.refl S
      · rw [stp_pour hk hr]
        exact (stk_pou S (i : Int) o).trans (stk_fold i l _)
/-- Every sample that was taken has all its cells. -/
theorem tak_there (i : Nat) : ∀ (l : List Op5) (S : Bsn), l.Pairwise (fun a b => a.s < b.s) → ∀ p ∈ l, p.k ≠ 2 → (∀ s, (l.foldl (stpB i) (S, none)).2 = some s → p.s < s) → ∀ k ∈ idsB S p, k ∈ (l.foldl (stpB i) (S, none)).1.ks
  | [], S, _, p, hp, _, _, _, _ => by cases hp
  | o :: l, S, hs, p, hp, hk2, hlt, k, hk => by
    obtain ⟨hs1, hs2⟩ := List.pairwise_cons.1 hs
    rw [List.foldl_cons] at hlt ⊢
    by_cases ho : o.k = 2
    · rw [stp_mark ho] at hlt ⊢
      rcases List.mem_cons.1 hp with rfl | hp
      · exact absurd ho hk2
      · exact tak_there i l _ hs2 p hp hk2 hlt k (by rw [ids_stk (stk_pnc S i o.t)]; exact hk)
    · cases hr : rooB S o
      · rw [stp_full ho hr, stp_stuck] at hlt
        have h1 := hlt o.s rfl
        rcases List.mem_cons.1 hp with rfl | hp
        · omega
        · have := hs1 p hp; omega
      · rw [stp_pour ho hr] at hlt ⊢
        rcases List.mem_cons.1 hp with rfl | hp
        · exact (stk_fold i l _).ks k ((fold_mem _ _ _ _).2 (.inr hk))
        · exact tak_there i l _ hs2 p hp hk2 hlt k (by rw [ids_stk (stk_pou S (i : Int) o)]; exact hk)
/-- The number at which it was full is one of the operations'. -/
theorem tak_some (i : Nat) : ∀ (l : List Op5) (S : Bsn) (s : Int), (l.foldl (stpB i) (S, none)).2 = some s → ∃ o ∈ l, o.s = s
  | [], S, s, h => by cases h
  | o :: l, S, s, h => by
    rw [List.foldl_cons] at h
    by_cases ho : o.k = 2
    · rw [stp_mark ho] at h
      obtain ⟨x, hx, e⟩ := tak_some i l _ s h
      exact ⟨x, by simp [hx], e⟩
    · cases hr : rooB S o
      · rw [stp_full ho hr, stp_stuck] at h
        cases h
        exact ⟨o, by simp, rfl⟩
      · rw [stp_pour ho hr] at h
        obtain ⟨x, hx, e⟩ := tak_some i l _ s h
        exact ⟨x, by simp [hx], e⟩
theorem drp_same (S : Bsn) : (drpB S).res = S.res ∧ (drpB S).sh = S.sh ∧ (drpB S).mo = S.mo ∧ (drpB S).ba = S.ba ∧ (drpB S).fl = S.fl := ⟨rfl, rfl, rfl, rfl, rfl⟩
/-- What Feed leaves. -/
structure FdK (S T : Bsn) (i : Nat) (fr la : Int) (ops : List Op5) (r : Option Int) : Prop where
  res : T.res = S.res
  sh : T.sh = S.sh
  mo : T.mo = S.mo
  fl : T.fl.length = S.fl.length
  np : npB T
  all : ∀ p ∈ ops, p.k ≠ 2 → (∀ s, r = some s → p.s < s) → ∀ k ∈ idL p.t p.y T.sh T.res, decide (k ∈ T.ks) = !pasB T.ba k
  nx : ∀ s, r = some s → nxOf T i = s ∧ fr ≤ s ∧ s ≤ la
theorem fd_kept {S : Bsn} {i : Nat} {fr la : Int} {cut : List (Int × Int)} {ops : List Op5} (hf : infO ops fr la) (hi : i < S.fl.length) : FdK S (fdZ S i la cut ops) i fr la ops (fdR S i cut ops).2 := by
  have h1 := stk_fold i ops (drpB (cutB S cut))
  have h2 := stk_nxt (fdR S i cut ops).1 i (tkN la (fdR S i cut ops))
  have h3 : StK (drpB (cutB S cut)) (fdZ S i la cut ops) := h1.trans h2
  have hnp : npB (fdZ S i la cut ops) := h3.np (np_drp _)
  refine ⟨h3.res, h3.sh, h3.mo, h3.fl, hnp, fun p hp hk hlt k hkm => ?_, fun s hs => ?_⟩
  · cases hpa : pasB (fdZ S i la cut ops).ba k
    · have hm : k ∈ idsB (drpB (cutB S cut)) p := by
        rw [← ids_stk h3]
        exact List.mem_filter.2 ⟨hkm, by rw [hpa]; rfl⟩
      have := h2.ks k (tak_there i ops _ hf.2 p hp hk hlt k hm)
      exact decide_eq_true this
    · apply decide_eq_false
      intro hm
      have := hnp k hm
      rw [hpa] at this
      cases this
  · have hl : i < (fdR S i cut ops).1.fl.length := by
      have := h1.fl
      show i < (takB (drpB (cutB S cut)) i ops).1.fl.length
      unfold takB
      rw [this]
      exact hi
    obtain ⟨o, ho, e⟩ := tak_some i ops _ s hs
    have hb := hf.1 o ho
    refine ⟨?_, by omega, by omega⟩
    unfold fdZ
    rw [nxtB_at _ (List.getElem?_eq_getElem hl)]
    unfold nxOf
    show (match ((fdR S i cut ops).1.fl.set i _)[i]? with | some f => f.nx | none => 0) = s
    rw [List.getElem?_set_self hl]
    show tkN la (fdR S i cut ops) = s
    unfold tkN
    rw [hs]
end Go.Proofs.Ytoeilckeebojmaa
