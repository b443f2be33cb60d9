/-
  Plain mathematics of BasinRaises: raising takes away just the cells ahead.
-/
import Derived.Test.YtoeilckeebojmabPk49
import Derived.Test.YtoeilckeebojmabPk51
import Derived.Test.YtoeilckeebojmabPk50
namespace Go.Proofs.Ytoeilckeebojmab
open Go.RowKit
set_option linter.unusedVariables false
set_option maxRecDepth 100000

def topP : Int × Int := (9223372036854775807, 9223372036854775807)
/-- All cells are of lane 0, ahead of the very last place. -/
def lowK (ks : List Kyy) : Prop := ∀ k ∈ ks, k.1 = 0 ∧ k.2.1 < 9223372036854775807
theorem sel_top {k : Kyy} (h : k.1 = 0 ∧ k.2.1 < 9223372036854775807) : selK 0 topP k = true := by
  unfold selK pl topP
  simp only [Bool.and_eq_true, decide_eq_true_eq]
  exact ⟨h.1, .inl h.2⟩
theorem pls_top {ks : List Kyy} (h : lowK ks) : plsK 0 topP ks = ks.map fun k => k.2 := by
  unfold plsK
  rw [List.filter_eq_self.2 fun k hk => sel_top (h k hk)]
theorem sortP_filter (f : Int × Int → Bool) (l : List (Int × Int)) : sortP (l.filter f) = (sortP l).filter f := by
  have h1 : (sortP (l.filter f)).Perm ((sortP l).filter f) := (sortP_perm _).trans ((sortP_perm l).symm.filter f)
  have h2 : ((sortP l).filter f).Pairwise fun x y => (!plq y x) = true := (sortP_sorted l).sublist List.filter_sublist
  rw [← sortP_of_sorted h2, ← sortP_uniq h1]
  exact (sortP_of_sorted (sortP_sorted _)).symm
structure RaJ (S : Bsn) (b0 : Int × Int) : Prop where
  ba : S.ba = [b0]
  np : npB S
  few : S.ks.length ≤ 100
  low : lowK S.ks
theorem lis_top {S : Bsn} {b0 : Int × Int} (h : RaJ S b0) : lisP S 0 topP = sortP (S.ks.map fun k => k.2) := by
  unfold lisP
  rw [show ((0 : Nat) : Int) = 0 from rfl, pls_top h.low]
theorem lisE_top {S : Bsn} {b0 : Int × Int} (h : RaJ S b0) : lisE S 0 topP 2000 = (sortP (S.ks.map fun k => k.2)).map fun p => (p, S.cv (0, p)) := by
  unfold lisE entL lisN
  rw [lis_top h]
  have hl : (sortP (S.ks.map fun k => k.2)).length ≤ 100 := by rw [sortP_len, List.length_map]; exact h.few
  rw [List.take_of_length_le (by omega)]
  rfl
theorem lisE_len {S : Bsn} {b0 : Int × Int} (h : RaJ S b0) : (lisE S 0 topP 2000).length = S.ks.length := by
  rw [lisE_top h, List.length_map, sortP_len, List.length_map]
def raiB (S : Bsn) (p : Int × Int) : Bsn := drpB (lifB S 0 p)
theorem rai_ba {S : Bsn} {b0 : Int × Int} (h : RaJ S b0) (p : Int × Int) : (raiB S p).ba = [mxP b0 p] := by
  show (lifB S 0 p).ba = _
  unfold lifB
  rw [h.ba]
  rfl
theorem rai_keep {S : Bsn} {b0 : Int × Int} (h : RaJ S b0) (p : Int × Int) {k : Kyy} (hk : k ∈ S.ks) : pasB (lifB S 0 p).ba k = pl k.2.1 k.2.2 p.1 p.2 := by
  have h0 := (h.low k hk).1
  have hn := h.np k hk
  have e1 : (lifB S 0 p).ba = [mxP b0 p] := rai_ba h p
  have hat : ∀ c : Int × Int, pasB [c] k = pl k.2.1 k.2.2 c.1 c.2 := fun c => by unfold pasB; rw [h0]; rfl
  rw [h.ba, hat] at hn
  rw [e1, hat]
  unfold mxP
  split
  · rfl
  · rename_i hp
    rw [hn]
    have hp' : pl b0.1 b0.2 p.1 p.2 = false := by cases hh : pl b0.1 b0.2 p.1 p.2; rfl; exact absurd hh hp
    unfold pl at *
    simp only [decide_eq_false_iff_not] at *
    symm
    rw [decide_eq_false_iff_not]
    omega
theorem rai_ks {S : Bsn} {b0 : Int × Int} (h : RaJ S b0) (p : Int × Int) : (raiB S p).ks = S.ks.filter fun k => !pl k.2.1 k.2.2 p.1 p.2 := by
  show S.ks.filter (fun k => !pasB (lifB S 0 p).ba k) = _
  exact List.filter_congr fun k hk => by rw [rai_keep h p hk]
theorem rai_J {S : Bsn} {b0 : Int × Int} (h : RaJ S b0) (p : Int × Int) : RaJ (raiB S p) (mxP b0 p) := by
  refine ⟨rai_ba h p, np_drp _, ?_, fun k hk => ?_⟩
  · rw [rai_ks h p]
    exact Nat.le_trans (List.length_filter_le _ _) h.few
  · rw [rai_ks h p] at hk
    exact h.low k (List.mem_filter.1 hk).1
/-- What isn't ahead of the place. -/
def wntE (l : List Ent) (p : Int × Int) : List Ent := l.filter fun x => !pl x.1.1 x.1.2 p.1 p.2
theorem wnt_map {S : Bsn} {b0 : Int × Int} (h : RaJ S b0) (p : Int × Int) : wntE (lisE S 0 topP 2000) p = (sortP ((raiB S p).ks.map fun k => k.2)).map fun q => (q, S.cv (0, q)) := by
  rw [lisE_top h, rai_ks h p]
  unfold wntE
  rw [List.filter_map]
  have e : (S.ks.filter fun k => !pl k.2.1 k.2.2 p.1 p.2).map (fun k => k.2) = (S.ks.map fun k => k.2).filter fun q => !pl q.1 q.2 p.1 p.2 := by
    rw [List.filter_map]
    rfl
  rw [e, sortP_filter]
  rfl
theorem wnt_same {S : Bsn} {b0 : Int × Int} (h : RaJ S b0) (p : Int × Int) : EntQ (lisE (raiB S p) 0 topP 2000) (wntE (lisE S 0 topP 2000) p) := by
  rw [wnt_map h p, lisE_top (rai_J h p)]
  refine ⟨by rw [List.length_map, List.length_map], fun j x y hx hy => ?_⟩
  rw [List.getElem?_map] at hx hy
  cases hq : (sortP ((raiB S p).ks.map fun k => k.2))[j]? with
  | none => rw [hq] at hx; cases hx
  | some q =>
    rw [hq] at hx hy
    cases hx
    cases hy
    refine ⟨rfl, ?_⟩
    have hm : q ∈ (raiB S p).ks.map fun k => k.2 := (sortP_perm _).mem_iff.1 (List.mem_of_getElem? hq)
    obtain ⟨k, hk, hkq⟩ := List.mem_map.1 hm
    have h0 := ((rai_J h p).low k hk).1
    have hk2 : (0, q) ∈ (raiB S p).ks := by
      have : k = (0, q) := Prod.ext h0 hkq
      rwa [this] at hk
    show Eqv (kepC (raiB S p).ks (lifB S 0 p).cv (0, q)) _
    unfold kepC
    rw [if_pos hk2]
    exact Eqv.refl _
theorem wnt_len {S : Bsn} {b0 : Int × Int} (h : RaJ S b0) (p : Int × Int) : (wntE (lisE S 0 topP 2000) p).length = (raiB S p).ks.length := by
  rw [wnt_map h p, List.length_map, sortP_len, List.length_map]
theorem mx_base (b0 p : Int × Int) : pl (mxP b0 p).1 (mxP b0 p).2 b0.1 b0.2 = false ∧ pl (mxP b0 p).1 (mxP b0 p).2 p.1 p.2 = false := by
  unfold mxP
  split
  · rename_i h
    unfold pl at *
    simp only [decide_eq_true_eq] at h
    constructor <;> (apply decide_eq_false; omega)
  · rename_i h
    have h2 : pl b0.1 b0.2 p.1 p.2 = false := by cases hh : pl b0.1 b0.2 p.1 p.2; rfl; exact absurd hh h
    refine ⟨?_, h2⟩
    unfold pl
    apply decide_eq_false
    omega
theorem wnt_snoc {l : List Ent} {k : Nat} {x : Ent} (p : Int × Int) (h : l[k]? = some x) : wntE (l.take (k + 1)) p = wntE (l.take k) p ++ (if pl x.1.1 x.1.2 p.1 p.2 = true then [] else [x]) := by
  unfold wntE
  rw [List.take_add_one, h, List.filter_append]
  congr 1
  cases hp : pl x.1.1 x.1.2 p.1 p.2 <;> simp [hp]
/-- How far the feeding has come. -/
structure RaI (S : Bsn) (T : List Tok) (j : Nat) : Prop where
  l : LstI S T
  res : S.res = [10]
  sh : S.sh = 1
  mo : S.mo = 1024
  fl : S.fl.length = 1
  nx : nxOf S 0 = (j : Int) + 1
  few : T.length ≤ j
  low : lowK S.ks
def ras0 : Bsn := newBsn 1 [10] 1 1024
theorem ra_new : RaI ras0 [] 0 := ⟨lst_new (n := 1) (by decide) (fun r hr => by simp at hr; omega), rfl, rfl, rfl, rfl, rfl, Nat.le_refl _, fun k hk => (by cases hk)⟩
theorem ra_ba {S : Bsn} {T : List Tok} {j : Nat} (h : RaI S T j) : S.ba = [lstP] := by
  have hb := h.l.ok.bl
  rw [h.res, h.sh] at hb
  have hl : S.ba.length = 1 := by simp at hb; omega
  match hS : S.ba, hl with
  | [p], _ =>
    have := h.l.al p (by rw [hS]; simp)
    rw [this]
theorem fl10 {t : Int} (ht : J64 t) : flD t 10 < 9223372036854775807 := by
  unfold J64 at ht
  unfold flD
  have h1 := Int.fdiv_eq_ediv_of_nonneg t (show (0 : Int) ≤ 10 by omega)
  omega
theorem idL10 (t y : Int) : idL t y 1 [10] = [(0, flD t 10, y)] := by
  have hm := flM_lt y 1 (by omega)
  have e1 : lnN 0 (flM y 1) 1 = 0 := by unfold lnN wrap64; omega
  show [(lnN ((0 : Nat) : Int) (flM y 1) 1, flD t 10, y)] = _
  rw [show ((0 : Nat) : Int) = 0 from rfl, e1]
def raO (j : Nat) (o : Op5) : Op5 := ⟨(j : Int) + 1, 1, o.t, o.y, o.v⟩
theorem ra_form {S : Bsn} {T : List Tok} {j : Nat} (h : RaI S T j) (hj : j < 1000) (o : Op5) : fdF S (0 : Nat) ((j : Int) + 1) ((j : Int) + 1) [lstP] [raO j o] := by
  refine ⟨⟨by omega, by rw [h.fl]; omega⟩, by rw [ra_ba h]; try rfl, by unfold wrap64; omega, ?_, by simp⟩
  intro x hx
  rw [List.mem_singleton.1 hx]
  exact ⟨.inl rfl, Int.le_refl _, Int.le_refl _⟩
theorem ra_fit {j : Nat} (hj : j < 1000) {o : Op5} (ho : Fit5 o) : Fit5 (raO j o) := ⟨by unfold J64 raO; dsimp only; omega, by unfold J64 raO; dsimp only; try omega, ho.t, ho.y, ho.v⟩
theorem nx_at {U : Bsn} {n : Int} (h : 0 < U.fl.length) : nxOf (nxtB U 0 n) 0 = n := by
  rw [nxtB_at _ (List.getElem?_eq_getElem h)]
  unfold nxOf
  show (match (U.fl.set 0 _)[0]? with | some f => f.nx | none => 0) = n
  rw [List.getElem?_set_self h]
theorem ra_next {S : Bsn} {T : List Tok} {j : Nat} (h : RaI S T j) (hj : j < 1000) {o : Op5} (ho : Fit5 o) : tkE (fdR S 0 [lstP] [raO j o]) = 0 ∧ ∃ T', RaI (fdZ S 0 ((j : Int) + 1) [lstP] [raO j o]) T' (j + 1) := by
  obtain ⟨h1, h2, h3, h4⟩ := fd_lst h.l (i := 0) (by unfold J64; omega) (la := (j : Int) + 1) (cut := [lstP]) (ops := [raO j o]) (by rw [ra_ba h]; try rfl) (fun p hp => List.mem_singleton.1 hp) (fun x hx => by rw [List.mem_singleton.1 hx]; exact ra_fit hj ho) (by rw [h.res, h.mo]; have := h.few; simp only [List.length_cons, List.length_nil]; omega)
  have hq : takQ 0 S.sh S.res [raO j o] = tokL ((0 : Nat) : Int) (raO j o) [(0, flD o.t 10, o.y)] := by
    rw [takQ_samp [] (by show (1 : Int) ≠ 2; omega), h.sh, h.res]
    show tokL _ _ (idL o.t o.y 1 [10]) ++ [] = _
    rw [idL10, List.append_nil]
  rw [hq] at h3
  refine ⟨h1, _, ⟨h3, h4.res.trans h.res, h4.sh.trans h.sh, h4.mo.trans h.mo, h4.fl.trans h.fl, ?_, ?_, ?_⟩⟩
  · obtain ⟨-, -, k3⟩ := tak_lst 0 (by unfold J64; omega) [raO j o] S T h.l (fun x hx => by rw [List.mem_singleton.1 hx]; exact ra_fit hj ho) (by rw [h.res, h.mo]; have := h.few; simp only [List.length_cons, List.length_nil]; omega)
    rw [h2, nx_at (by rw [k3.fl, h.fl]; omega)]
    unfold wrap64
    omega
  · rw [List.length_append]
    have := h.few
    show T.length + 1 ≤ j + 1
    omega
  · intro k hk
    obtain ⟨x, hx, e⟩ := (h3.tk.ks k).1 hk
    rcases List.mem_append.1 hx with hx | hx
    · exact h.low k ((h.l.tk.ks k).2 ⟨x, hx, e⟩)
    · have hx2 : x = ((0, flD o.t 10, o.y), ((0 : Nat) : Int), raO j o) := by simpa [tokL] using hx
      rw [← e, hx2]
      exact ⟨rfl, fl10 ho.t⟩
theorem ra_done {S : Bsn} {T : List Tok} {j : Nat} (h : RaI S T j) (hj : j ≤ 100) : RaJ S lstP := ⟨ra_ba h, h.l.np, by have := h.l.few; have := h.few; omega, h.low⟩
end Go.Proofs.Ytoeilckeebojmab
