/-
  Plain mathematics of BasinOrder: it doesn't matter in which order the sources' streams come.
  Plain mathematics of BasinRaises: raising takes away just the cells ahead.
-/
import Derived.Test.YtoeilckeebojmaaPk49
import Derived.Test.YtoeilckeebojmaaPk51
import Derived.Test.YtoeilckeebojmaaPk50
namespace Go.Proofs.Ytoeilckeebojmaa
open Go.RowKit
set_option linter.unusedVariables false
set_option maxRecDepth 100000

/-- The operation that is fed behind so many others. -/
def sqO (j : Nat) (o : Op5) : Op5 := ⟨(j : Int) + 1, 1 + o.k % 2, o.t, o.y, o.v⟩
theorem sqO_k (j : Nat) (o : Op5) : (sqO j o).k = 1 ∨ (sqO j o).k = 2 := by
  show 1 + o.k % 2 = 1 ∨ 1 + o.k % 2 = 2
  omega
theorem sqO_fit {j : Nat} (hj : j < 1000) {o : Op5} (ho : Fit5 o) : Fit5 (sqO j o) := ⟨by unfold J64 sqO; dsimp only; omega, by unfold J64 sqO; dsimp only; omega, ho.t, ho.y, ho.v⟩
def sqL (l : List Op5) : List Op5 := l.mapIdx sqO
theorem sqL_snoc (l : List Op5) (o : Op5) : sqL (l ++ [o]) = sqL l ++ [sqO l.length o] := by
  unfold sqL
  rw [List.mapIdx_append]
  simp
/-- How far a stream of these has come. -/
def stF (f : Flw) (o : Op5) : Flw := if (1 + o.k % 2 : Int) = 2 then { pncF f o.t with nx := f.nx + 1 } else { f with nx := f.nx + 1 }
def flF (l : List Op5) : Flw := l.foldl stF newFl
theorem flF_snoc (l : List Op5) (o : Op5) : flF (l ++ [o]) = stF (flF l) o := by unfold flF; rw [List.foldl_append]; rfl
theorem stF_nx (f : Flw) (o : Op5) : (stF f o).nx = f.nx + 1 := by unfold stF; split <;> rfl
theorem flF_nx (l : List Op5) : (flF l).nx = (l.length : Int) + 1 := by
  have : ∀ (l : List Op5) (f : Flw), (l.foldl stF f).nx = f.nx + (l.length : Int) := by
    intro l
    induction l with
    | nil => intro f; simp
    | cons o l ih => intro f; rw [List.foldl_cons, ih, stF_nx, List.length_cons]; omega
  unfold flF
  rw [this]
  show (1 : Int) + _ = _
  omega
def odR : List Int := [10, 3]
def odC : List (Int × Int) := [lstP, lstP, lstP, lstP]
def ods0 : Bsn := newBsn 2 odR 2 1024
def tkO (i : Nat) (l : List Op5) : List Tok := takQ i 2 odR (sqL l)
theorem tkO_snoc (i : Nat) (l : List Op5) (o : Op5) : tkO i (l ++ [o]) = tkO i l ++ takQ i 2 odR [sqO l.length o] := by unfold tkO; rw [sqL_snoc, takQ_append]
theorem tkO_len (i : Nat) (l : List Op5) : (tkO i l).length ≤ l.length * 2 := by
  have := takQ_len i 2 odR (sqL l)
  unfold tkO
  rw [show (sqL l).length = l.length by unfold sqL; rw [List.length_mapIdx]] at this
  exact this
/-- A basin that has been fed these two streams. -/
structure OdI (S : Bsn) (la lb : List Op5) (T : List Tok) : Prop where
  l : LstI S T
  res : S.res = odR
  sh : S.sh = 2
  mo : S.mo = 1024
  fl : S.fl = [flF la, flF lb]
  tk : T.Perm (tkO 0 la ++ tkO 1 lb)
theorem od_new : OdI ods0 [] [] [] := ⟨lst_new (n := 2) (by decide) (fun r hr => by simp [odR] at hr; omega), rfl, rfl, rfl, rfl, List.Perm.refl _⟩
theorem od_ba {S : Bsn} {la lb : List Op5} {T : List Tok} (h : OdI S la lb T) : S.ba = odC := by
  have hb := h.l.ok.bl
  rw [h.res, h.sh] at hb
  have hl : S.ba.length = 4 := by simp [odR] at hb; omega
  match hS : S.ba, hl with
  | [p, q, r, s], _ =>
    have e1 := h.l.al p (by rw [hS]; simp)
    have e2 := h.l.al q (by rw [hS]; simp)
    have e3 := h.l.al r (by rw [hS]; simp)
    have e4 := h.l.al s (by rw [hS]; simp)
    rw [e1, e2, e3, e4]
    rfl
theorem od_few {S : Bsn} {la lb : List Op5} {T : List Tok} (h : OdI S la lb T) : T.length ≤ la.length * 2 + lb.length * 2 := by
  have := h.tk.length_eq
  rw [List.length_append] at this
  have := tkO_len 0 la
  have := tkO_len 1 lb
  omega
/-- The flow behind one operation. -/
theorem od_flow {S : Bsn} {T : List Tok} (h : LstI S T) (i j : Nat) {o : Op5} {f : Flw} (hk : (sqO j o).k = 1 ∨ (sqO j o).k = 2) (hfi : S.fl[i]? = some f) (hr : rooB S (sqO j o) = true) (hx : f.nx = (j : Int) + 1) (hj : j < 1000) : (nxtB (takB S i [sqO j o]).1 i (wrap64 ((j : Int) + 1 + 1))).fl = S.fl.set i (stF f o) := by
  have hw : wrap64 ((j : Int) + 1 + 1) = f.nx + 1 := by rw [hx]; unfold wrap64; omega
  rw [hw]
  unfold takB
  rw [List.foldl_cons, List.foldl_nil]
  by_cases hm : (1 + o.k % 2 : Int) = 2
  · rw [stp_mark (show (sqO j o).k = 2 from hm), pncB_at _ hfi]
    have hl := (List.getElem?_eq_some_iff.1 hfi).1
    rw [nxtB_at (f := pncF f o.t) _ (by show (S.fl.set i (pncF f (sqO j o).t))[i]? = _; rw [List.getElem?_set_self hl]; rfl)]
    show (S.fl.set i (pncF f (sqO j o).t)).set i _ = _
    rw [List.set_set]
    unfold stF
    rw [if_pos hm]
  · rw [stp_pour (show (sqO j o).k ≠ 2 from hm) hr]
    rw [nxtB_at (f := f) _ (by rw [pou_fl]; exact hfi)]
    show (pouB S (i : Int) (sqO j o)).fl.set i _ = _
    rw [pou_fl]
    unfold stF
    rw [if_neg hm]
theorem od_form {S : Bsn} {la lb : List Op5} {T : List Tok} (h : OdI S la lb T) (i j : Nat) (hi : i < 2) (hj : j < 1000) (o : Op5) : fdF S (i : Int) ((j : Int) + 1) ((j : Int) + 1) odC [sqO j o] := by
  refine ⟨⟨by omega, by rw [h.fl]; show (i : Int) < 2; omega⟩, by rw [od_ba h], by unfold wrap64; omega, ?_, by simp⟩
  intro x hx
  rw [List.mem_singleton.1 hx]
  exact ⟨sqO_k j o, Int.le_refl _, Int.le_refl _⟩
theorem od_c (p : Int × Int) (hp : p ∈ odC) : p = lstP := by simp [odC] at hp; exact hp
theorem od_core {S : Bsn} {la lb : List Op5} {T : List Tok} (h : OdI S la lb T) (i j : Nat) (hi : i < 2) {f : Flw} (hfi : S.fl[i]? = some f) (hx : f.nx = (j : Int) + 1) (hj : j < 100) (hT : T.length ≤ 500) {o : Op5} (ho : Fit5 o) :
    tkE (fdR S i odC [sqO j o]) = 0 ∧ LstI (fdZ S i ((j : Int) + 1) odC [sqO j o]) (T ++ takQ i 2 odR [sqO j o]) ∧ StK S (fdZ S i ((j : Int) + 1) odC [sqO j o]) ∧ (fdZ S i ((j : Int) + 1) odC [sqO j o]).fl = S.fl.set i (stF f o) := by
  have hrl : S.res.length = 2 := by rw [h.res]; rfl
  have hf : ∀ x ∈ [sqO j o], Fit5 x := fun x hx => by rw [List.mem_singleton.1 hx]; exact sqO_fit (by omega) ho
  have hr : ((T.length + [sqO j o].length * S.res.length : Nat) : Int) ≤ S.mo := by rw [hrl, h.mo]; simp only [List.length_cons, List.length_nil]; omega
  have hs : J64 (i : Int) := by unfold J64; omega
  obtain ⟨h1, h2, h3, h4⟩ := fd_lst h.l (i := i) hs (la := (j : Int) + 1) (cut := odC) (ops := [sqO j o]) (by rw [od_ba h]) od_c hf hr
  rw [h.sh, h.res] at h3
  refine ⟨h1, h3, h4, ?_⟩
  rw [h2]
  exact od_flow h.l i j (sqO_k j o) hfi (h.l.roo _ (by rw [hrl, h.mo]; omega)) hx (by omega)
theorem od_next0 {S : Bsn} {la lb : List Op5} {T : List Tok} (h : OdI S la lb T) (hla : la.length < 100) (hT : T.length ≤ 500) {o : Op5} (ho : Fit5 o) :
    tkE (fdR S 0 odC [sqO la.length o]) = 0 ∧ OdI (fdZ S 0 ((la.length : Int) + 1) odC [sqO la.length o]) (la ++ [o]) lb (T ++ takQ 0 2 odR [sqO la.length o]) := by
  obtain ⟨h1, h2, h3, h4⟩ := od_core h 0 la.length (by omega) (f := flF la) (by rw [h.fl]; rfl) (flF_nx la) hla hT ho
  refine ⟨h1, h2, h3.res.trans h.res, h3.sh.trans h.sh, h3.mo.trans h.mo, ?_, ?_⟩
  · rw [h4, h.fl, flF_snoc]; rfl
  · rw [tkO_snoc]
    refine (h.tk.append_right _).trans ?_
    rw [List.append_assoc, List.append_assoc]
    exact List.Perm.append_left _ List.perm_append_comm
theorem od_next1 {S : Bsn} {la lb : List Op5} {T : List Tok} (h : OdI S la lb T) (hlb : lb.length < 100) (hT : T.length ≤ 500) {o : Op5} (ho : Fit5 o) :
    tkE (fdR S 1 odC [sqO lb.length o]) = 0 ∧ OdI (fdZ S 1 ((lb.length : Int) + 1) odC [sqO lb.length o]) la (lb ++ [o]) (T ++ takQ 1 2 odR [sqO lb.length o]) := by
  obtain ⟨h1, h2, h3, h4⟩ := od_core h 1 lb.length (by omega) (f := flF lb) (by rw [h.fl]; rfl) (flF_nx lb) hlb hT ho
  refine ⟨h1, h2, h3.res.trans h.res, h3.sh.trans h.sh, h3.mo.trans h.mo, ?_, ?_⟩
  · rw [h4, h.fl, flF_snoc]; rfl
  · rw [tkO_snoc, ← List.append_assoc]
    exact h.tk.append_right _
/-- Two basins that were fed the same streams show the same. -/
structure OdS (S S' : Bsn) : Prop where
  len : S.ks.length = S'.ks.length
  cls : ∀ i, clsP S i = clsP S' i
  lm : lmB S.fl = lmB S'.fl
  lis : ∀ i pt mo, EntQ (lisE S i pt mo) (lisE S' i pt mo)
  ba : S.ba.length = 4
  ba' : S'.ba.length = 4
theorem od_same {S S' : Bsn} {la lb : List Op5} {T T' : List Tok} (h : OdI S la lb T) (h' : OdI S' la lb T') : OdS S S' := by
  obtain ⟨hk, hc⟩ := tki_same h.l.tk h'.l.tk (h.tk.trans h'.tk.symm)
  have hp : S.ks.Perm S'.ks := (List.perm_ext_iff_of_nodup h.l.ok.nd h'.l.ok.nd).2 hk
  have hfl : S.fl = S'.fl := h.fl.trans h'.fl.symm
  refine ⟨hp.length_eq, fun i => ?_, by rw [hfl], fun i pt mo => ?_, by rw [od_ba h]; rfl, by rw [od_ba h']; rfl⟩
  · unfold clsP
    rw [hfl, h.res, h'.res, h.sh, h'.sh]
  · have e1 : lisP S i pt = lisP S' i pt := by unfold lisP; exact sortP_uniq (plsK_perm hp)
    unfold lisE entL lisN
    rw [e1]
    refine ⟨by rw [List.length_map, List.length_map], fun j x y hx hy => ?_⟩
    rw [List.getElem?_map] at hx hy
    cases hq : (List.take (min mo ((lisP S' i pt).length : Int)).toNat (lisP S' i pt))[j]? with
    | none => rw [hq] at hx; cases hx
    | some q =>
      rw [hq] at hx hy
      cases hx
      cases hy
      exact ⟨rfl, hc _⟩
end Go.Proofs.Ytoeilckeebojmaa
namespace Go.Proofs.Ytoeilckeebojmaa
open Go.RowKit
set_option linter.unusedVariables false
set_option maxRecDepth 100000

def topP : Int × Int := (9223372036854775807, 9223372036854775807)
/-- All cells are of lane 0, ahead of the very last place. -/
def lowK (ks : List Kyy) : Prop := ∀ k ∈ ks, k.1 = 0 ∧ k.2.1 < 9223372036854775807
theorem sel_top {k : Kyy} (h : k.1 = 0 ∧ k.2.1 < 9223372036854775807) : selK 0 topP k = true := by
  unfold selK pl topP
  simp only [Bool.and_eq_true, decide_eq_true_eq]
  exact ⟨h.1, .inl h.2⟩
theorem pls_top {ks : List Kyy} (h : lowK ks) : plsK 0 topP ks = ks.map fun k => k.2 := by
  unfold plsK
  rw [List.filter_eq_self.2 fun k hk => sel_top (h k hk)]
theorem sortP_filter (f : Int × Int → Bool) (l : List (Int × Int)) : sortP (l.filter f) = (sortP l).filter f := by
  have h1 : (sortP (l.filter f)).Perm ((sortP l).filter f) := (sortP_perm _).trans ((sortP_perm l).symm.filter f)
  have h2 : ((sortP l).filter f).Pairwise fun x y => (!plq y x) = true := (sortP_sorted l).sublist List.filter_sublist
  rw [← sortP_of_sorted h2, ← sortP_uniq h1]
  exact (sortP_of_sorted (sortP_sorted _)).symm
structure RaJ (S : Bsn) (b0 : Int × Int) : Prop where
  ba : S.ba = [b0]
  np : npB S
  few : S.ks.length ≤ 100
  low : lowK S.ks
theorem lis_top {S : Bsn} {b0 : Int × Int} (h : RaJ S b0) : lisP S 0 topP = sortP (S.ks.map fun k => k.2) := by
  unfold lisP
  rw [show ((0 : Nat) : Int) = 0 from rfl, pls_top h.low]
theorem lisE_top {S : Bsn} {b0 : Int × Int} (h : RaJ S b0) : lisE S 0 topP 2000 = (sortP (S.ks.map fun k => k.2)).map fun p => (p, S.cv (0, p)) := by
  unfold lisE entL lisN
  rw [lis_top h]
  have hl : (sortP (S.ks.map fun k => k.2)).length ≤ 100 := by rw [sortP_len, List.length_map]; exact h.few
  rw [List.take_of_length_le (by omega)]
  rfl
theorem lisE_len {S : Bsn} {b0 : Int × Int} (h : RaJ S b0) : (lisE S 0 topP 2000).length = S.ks.length := by
  rw [lisE_top h, List.length_map, sortP_len, List.length_map]
def raiB (S : Bsn) (p : Int × Int) : Bsn := drpB (lifB S 0 p)
theorem rai_ba {S : Bsn} {b0 : Int × Int} (h : RaJ S b0) (p : Int × Int) : (raiB S p).ba = [mxP b0 p] := by
  show (lifB S 0 p).ba = _
  unfold lifB
  rw [h.ba]
  rfl
theorem rai_keep {S : Bsn} {b0 : Int × Int} (h : RaJ S b0) (p : Int × Int) {k : Kyy} (hk : k ∈ S.ks) : pasB (lifB S 0 p).ba k = pl k.2.1 k.2.2 p.1 p.2 := by
  have h0 := (h.low k hk).1
  have hn := h.np k hk
  have e1 : (lifB S 0 p).ba = [mxP b0 p] := rai_ba h p
  have hat : ∀ c : Int × Int, pasB [c] k = pl k.2.1 k.2.2 c.1 c.2 := fun c => by unfold pasB; rw [h0]; rfl
  rw [h.ba, hat] at hn
  rw [e1, hat]
  unfold mxP
  split
  · rfl
  · rename_i hp
    rw [hn]
    have hp' : pl b0.1 b0.2 p.1 p.2 = false := by cases hh : pl b0.1 b0.2 p.1 p.2; rfl; exact absurd hh hp
    unfold pl at *
    simp only [decide_eq_false_iff_not] at *
    symm
    rw [decide_eq_false_iff_not]
    omega
theorem rai_ks {S : Bsn} {b0 : Int × Int} (h : RaJ S b0) (p : Int × Int) : (raiB S p).ks = S.ks.filter fun k => !pl k.2.1 k.2.2 p.1 p.2 := by
  show S.ks.filter (fun k => !pasB (lifB S 0 p).ba k) = _
  exact List.filter_congr fun k hk => by rw [rai_keep h p hk]
theorem rai_J {S : Bsn} {b0 : Int × Int} (h : RaJ S b0) (p : Int × Int) : RaJ (raiB S p) (mxP b0 p) := by
  refine ⟨rai_ba h p, np_drp _, ?_, fun k hk => ?_⟩
  · rw [rai_ks h p]
    exact Nat.le_trans (List.length_filter_le _ _) h.few
  · rw [rai_ks h p] at hk
    exact h.low k (List.mem_filter.1 hk).1
/-- What isn't ahead of the place. -/
def wntE (l : List Ent) (p : Int × Int) : List Ent := l.filter fun x => !pl x.1.1 x.1.2 p.1 p.2
theorem wnt_map {S : Bsn} {b0 : Int × Int} (h : RaJ S b0) (p : Int × Int) : wntE (lisE S 0 topP 2000) p = (sortP ((raiB S p).ks.map fun k => k.2)).map fun q => (q, S.cv (0, q)) := by
  rw [lisE_top h, rai_ks h p]
  unfold wntE
  rw [List.filter_map]
  have e : (S.ks.filter fun k => !pl k.2.1 k.2.2 p.1 p.2).map (fun k => k.2) = (S.ks.map fun k => k.2).filter fun q => !pl q.1 q.2 p.1 p.2 := by
    rw [List.filter_map]
    rfl
  rw [e, sortP_filter]
  rfl
theorem wnt_same {S : Bsn} {b0 : Int × Int} (h : RaJ S b0) (p : Int × Int) : EntQ (lisE (raiB S p) 0 topP 2000) (wntE (lisE S 0 topP 2000) p) := by
  rw [wnt_map h p, lisE_top (rai_J h p)]
  refine ⟨by rw [List.length_map, List.length_map], fun j x y hx hy => ?_⟩
  rw [List.getElem?_map] at hx hy
  cases hq : (sortP ((raiB S p).ks.map fun k => k.2))[j]? with
  | none => rw [hq] at hx; cases hx
  | some q =>
    rw [hq] at hx hy
    cases hx
    cases hy
    refine ⟨rfl, ?_⟩
    have hm : q ∈ (raiB S p).ks.map fun k => k.2 := (sortP_perm _).mem_iff.1 (List.mem_of_getElem? hq)
    obtain ⟨k, hk, hkq⟩ := List.mem_map.1 hm
    have h0 := ((rai_J h p).low k hk).1
    have hk2 : (0, q) ∈ (raiB S p).ks := by
      have : k = (0, q) := Prod.ext h0 hkq
      rwa [this] at hk
    show Eqv (kepC (raiB S p).ks (lifB S 0 p).cv (0, q)) _
    unfold kepC
    rw [if_pos hk2]
    exact Eqv.refl _
theorem wnt_len {S : Bsn} {b0 : Int × Int} (h : RaJ S b0) (p : Int × Int) : (wntE (lisE S 0 topP 2000) p).length = (raiB S p).ks.length := by
  rw [wnt_map h p, List.length_map, sortP_len, List.length_map]
theorem mx_base (b0 p : Int × Int) : pl (mxP b0 p).1 (mxP b0 p).2 b0.1 b0.2 = false ∧ pl (mxP b0 p).1 (mxP b0 p).2 p.1 p.2 = false := by
  unfold mxP
  split
  · rename_i h
    unfold pl at *
    simp only [decide_eq_true_eq] at h
    constructor <;> (apply decide_eq_false; omega)
  · rename_i h
    have h2 : pl b0.1 b0.2 p.1 p.2 = false := by cases hh : pl b0.1 b0.2 p.1 p.2; rfl; exact absurd hh h
    refine ⟨?_, h2⟩
    unfold pl
    apply decide_eq_false
    omega
theorem wnt_snoc {l : List Ent} {k : Nat} {x : Ent} (p : Int × Int) (h : l[k]? = some x) : wntE (l.take (k + 1)) p = wntE (l.take k) p ++ (if pl x.1.1 x.1.2 p.1 p.2 = true then [] else [x]) := by
  unfold wntE
  rw [List.take_add_one, h, List.filter_append]
  congr 1
  cases hp : pl x.1.1 x.1.2 p.1 p.2 <;> simp [hp]
/-- How far the feeding has come. -/
structure RaI (S : Bsn) (T : List Tok) (j : Nat) : Prop where
  l : LstI S T
  res : S.res = [10]
  sh : S.sh = 1
  mo : S.mo = 1024
  fl : S.fl.length = 1
  nx : nxOf S 0 = (j : Int) + 1
  few : T.length ≤ j
  low : lowK S.ks
def ras0 : Bsn := newBsn 1 [10] 1 1024
theorem ra_new : RaI ras0 [] 0 := ⟨lst_new (n := 1) (by decide) (fun r hr => by simp at hr; omega), rfl, rfl, rfl, rfl, rfl, Nat.le_refl _, fun k hk => (by cases hk)⟩
theorem ra_ba {S : Bsn} {T : List Tok} {j : Nat} (h : RaI S T j) : S.ba = [lstP] := by
  have hb := h.l.ok.bl
  rw [h.res, h.sh] at hb
  have hl : S.ba.length = 1 := by simp at hb; omega
  match hS : S.ba, hl with
  | [p], _ =>
    have := h.l.al p (by rw [hS]; simp)
    rw [this]
theorem fl10 {t : Int} (ht : J64 t) : flD t 10 < 9223372036854775807 := by
  unfold J64 at ht
  unfold flD
  have h1 := Int.fdiv_eq_ediv_of_nonneg t (show (0 : Int) ≤ 10 by omega)
  omega
theorem idL10 (t y : Int) : idL t y 1 [10] = [(0, flD t 10, y)] := by
  have hm := flM_lt y 1 (by omega)
  have e1 : lnN 0 (flM y 1) 1 = 0 := by unfold lnN wrap64; omega
  show [(lnN ((0 : Nat) : Int) (flM y 1) 1, flD t 10, y)] = _
  rw [show ((0 : Nat) : Int) = 0 from rfl, e1]
def raO (j : Nat) (o : Op5) : Op5 := ⟨(j : Int) + 1, 1, o.t, o.y, o.v⟩
theorem ra_form {S : Bsn} {T : List Tok} {j : Nat} (h : RaI S T j) (hj : j < 1000) (o : Op5) : fdF S (0 : Nat) ((j : Int) + 1) ((j : Int) + 1) [lstP] [raO j o] := by
  refine ⟨⟨by omega, by rw [h.fl]; omega⟩, by rw [ra_ba h]; try rfl, by unfold wrap64; omega, ?_, by simp⟩
  intro x hx
  rw [List.mem_singleton.1 hx]
  exact ⟨.inl rfl, Int.le_refl _, Int.le_refl _⟩
theorem ra_fit {j : Nat} (hj : j < 1000) {o : Op5} (ho : Fit5 o) : Fit5 (raO j o) := ⟨by unfold J64 raO; dsimp only; omega, by unfold J64 raO; dsimp only; try omega, ho.t, ho.y, ho.v⟩
theorem nx_at {U : Bsn} {n : Int} (h : 0 < U.fl.length) : nxOf (nxtB U 0 n) 0 = n := by
  rw [nxtB_at _ (List.getElem?_eq_getElem h)]
  unfold nxOf
  show (match (U.fl.set 0 _)[0]? with | some f => f.nx | none => 0) = n
  rw [List.getElem?_set_self h]
theorem ra_next {S : Bsn} {T : List Tok} {j : Nat} (h : RaI S T j) (hj : j < 1000) {o : Op5} (ho : Fit5 o) : tkE (fdR S 0 [lstP] [raO j o]) = 0 ∧ ∃ T', RaI (fdZ S 0 ((j : Int) + 1) [lstP] [raO j o]) T' (j + 1) := by
  obtain ⟨h1, h2, h3, h4⟩ := fd_lst h.l (i := 0) (by unfold J64; omega) (la := (j : Int) + 1) (cut := [lstP]) (ops := [raO j o]) (by rw [ra_ba h]; try rfl) (fun p hp => List.mem_singleton.1 hp) (fun x hx => by rw [List.mem_singleton.1 hx]; exact ra_fit hj ho) (by rw [h.res, h.mo]; have := h.few; simp only [List.length_cons, List.length_nil]; omega)
  have hq : takQ 0 S.sh S.res [raO j o] = tokL ((0 : Nat) : Int) (raO j o) [(0, flD o.t 10, o.y)] := by
    rw [takQ_samp [] (by show (1 : Int) ≠ 2; omega), h.sh, h.res]
    show tokL _ _ (idL o.t o.y 1 [10]) ++ [] = _
    rw [idL10, List.append_nil]
  rw [hq] at h3
  refine ⟨h1, _, ⟨h3, h4.res.trans h.res, h4.sh.trans h.sh, h4.mo.trans h.mo, h4.fl.trans h.fl, ?_, ?_, ?_⟩⟩
  · obtain ⟨-, -, k3⟩ := tak_lst 0 (by unfold J64; omega) [raO j o] S T h.l (fun x hx => by rw [List.mem_singleton.1 hx]; exact ra_fit hj ho) (by rw [h.res, h.mo]; have := h.few; simp only [List.length_cons, List.length_nil]; omega)
    rw [h2, nx_at (by rw [k3.fl, h.fl]; omega)]
    unfold wrap64
    omega
  · rw [List.length_append]
    have := h.few
    show T.length + 1 ≤ j + 1
    omega
  · intro k hk
    obtain ⟨x, hx, e⟩ := (h3.tk.ks k).1 hk
    rcases List.mem_append.1 hx with hx | hx
    · exact h.low k ((h.l.tk.ks k).2 ⟨x, hx, e⟩)
    · have hx2 : x = ((0, flD o.t 10, o.y), ((0 : Nat) : Int), raO j o) := by simpa [tokL] using hx
      rw [← e, hx2]
      exact ⟨rfl, fl10 ho.t⟩
theorem ra_done {S : Bsn} {T : List Tok} {j : Nat} (h : RaI S T j) (hj : j ≤ 100) : RaJ S lstP := ⟨ra_ba h, h.l.np, by have := h.l.few; have := h.few; omega, h.low⟩
end Go.Proofs.Ytoeilckeebojmaa
