/-
  Plain mathematics of basins: what their calls answer and leave.
  Plain mathematics of pouring a sample into its cells.
-/
import Derived.Test.YtfnageillhpjpaaPk21
import Derived.Test.YtfnageillhpjpaaPk33
namespace Go.Proofs.Ytfnageillhpjpaa
set_option maxRecDepth 100000
open Go.RowKit
set_option linter.unusedVariables false

/-- How far a source's stream has come. -/
structure Flw where
  nx : Int
  mt : Int
  md : Bool
  deriving DecidableEq
abbrev Kyy := Int × Int × Int
/-- A basin. -/
structure Bsn where
  res : List Int
  sh : Int
  mo : Int
  fl : List Flw
  ba : List (Int × Int)
  ks : List Kyy
  cv : Kyy → Nat → Int
def lstP : Int × Int := (-9223372036854775808, -9223372036854775808)
def newFl : Flw := ⟨1, 0, false⟩
def newBsn (n : Nat) (res : List Int) (sh mo : Int) : Bsn := ⟨res, sh, mo, List.replicate n newFl, List.replicate (res.length * sh.toNat) lstP, [], fun _ => zc⟩
def goodR (res : List Int) (sh : Int) : Bool := res.all (fun r => decide (1 ≤ r)) && decide (1 ≤ res.length ∧ res.length ≤ 3) && decide (1 ≤ sh ∧ sh ≤ 4)
def newOK (n : Int) (res : List Int) (sh mo : Int) : Bool := decide (1 ≤ n ∧ n ≤ 4) && goodR res sh && decide (1 ≤ mo ∧ mo ≤ 1024)
/-- A cell is ahead of its lane's base. -/
def pasB (ba : List (Int × Int)) (k : Kyy) : Bool := match ba[k.1.toNat]? with | some c => pl k.2.1 k.2.2 c.1 c.2 | none => false
/-- Only these cells are left. -/
def kepC (ks : List Kyy) (cv : Kyy → Nat → Int) : Kyy → Nat → Int := fun k => if k ∈ ks then cv k else zc
def drpB (S : Bsn) : Bsn := { S with ks := S.ks.filter fun k => !pasB S.ba k, cv := kepC (S.ks.filter fun k => !pasB S.ba k) S.cv }
def lifB (S : Bsn) (i : Nat) (p : Int × Int) : Bsn := { S with ba := match S.ba[i]? with | some c => S.ba.set i (mxP c p) | none => S.ba }
def cutB (S : Bsn) (ps : List (Int × Int)) : Bsn := { S with ba := List.zipWith mxP S.ba ps }
/-- One cell joined. -/
def addK (ks : List Kyy) (k : Kyy) : List Kyy := if k ∈ ks then ks else ks ++ [k]
def addC (cv : Kyy → Nat → Int) (k : Kyy) (one : Nat → Int) : Kyy → Nat → Int := fun j => if j = k then joinF [cv k, one] else cv j
def addB (S : Bsn) (one : Nat → Int) (k : Kyy) : Bsn := { S with ks := addK S.ks k, cv := addC S.cv k one }
/-- The cells of an operation that aren't ahead of the bases. -/
def idsB (S : Bsn) (o : Op5) : List Kyy := (idL o.t o.y S.sh S.res).filter fun k => !pasB S.ba k
def misB (S : Bsn) (l : List Kyy) : Nat := (l.filter fun k => decide (k ∉ S.ks)).length
def rooB (S : Bsn) (o : Op5) : Bool := decide (((S.ks.length + misB S (idsB S o) : Nat) : Int) ≤ S.mo)
def pouB (S : Bsn) (src : Int) (o : Op5) : Bsn := (idsB S o).foldl (fun T k => addB T (oneF src o.s o.t o.v) k) S
def pncF (f : Flw) (t : Int) : Flw := if f.md = false ∨ f.mt < t then { f with mt := t, md := true } else f
def pncB (S : Bsn) (i : Nat) (t : Int) : Bsn := { S with fl := match S.fl[i]? with | some f => S.fl.set i (pncF f t) | none => S.fl }
/-- One operation taken; behind a sample that finds no room nothing is. -/
def stpB (i : Nat) (x : Bsn × Option Int) (o : Op5) : Bsn × Option Int :=
  match x.2 with
  | some s => x
  | none => if o.k = 2 then (pncB x.1 i o.t, none) else if rooB x.1 o = true then (pouB x.1 (i : Int) o, none) else (x.1, some o.s)
def takB (S : Bsn) (i : Nat) (ops : List Op5) : Bsn × Option Int := ops.foldl (stpB i) (S, none)
theorem stp_stuck (i : Nat) (s : Int) : ∀ (l : List Op5) (S : Bsn), l.foldl (stpB i) (S, some s) = (S, some s)
  | [], _ => rfl
  | o :: l, S => by rw [List.foldl_cons]; exact stp_stuck i s l S
def nxtB (S : Bsn) (i : Nat) (n : Int) : Bsn := { S with fl := match S.fl[i]? with | some f => S.fl.set i { f with nx := n } | none => S.fl }
/-- Which operations are in form. -/
def infO (ops : List Op5) (fr la : Int) : Prop := (∀ o ∈ ops, (o.k = 1 ∨ o.k = 2) ∧ fr ≤ o.s ∧ o.s ≤ la) ∧ ops.Pairwise fun a b => a.s < b.s
/-- Which Feed is in form. -/
def fdF (S : Bsn) (src fr la : Int) (cut : List (Int × Int)) (ops : List Op5) : Prop := (0 ≤ src ∧ src < (S.fl.length : Int)) ∧ cut.length = S.ba.length ∧ wrap64 (fr - 1) ≤ la ∧ infO ops fr la
def nxOf (S : Bsn) (i : Nat) : Int := match S.fl[i]? with | some f => f.nx | none => 0
def fdT (S : Bsn) (i : Nat) (cut : List (Int × Int)) (ops : List Op5) : Bsn × Option Int := takB (drpB (cutB S cut)) i ops
def fdS (S : Bsn) (i : Nat) (la : Int) (cut : List (Int × Int)) (ops : List Op5) : Bsn := nxtB (fdT S i cut ops).1 i (match (fdT S i cut ops).2 with | some s => s | none => wrap64 (la + 1))
def fdE (S : Bsn) (i : Nat) (cut : List (Int × Int)) (ops : List Op5) : Nat := match (fdT S i cut ops).2 with | some _ => 7 | none => 0

def KyOk (k : Kyy) : Prop := J64 k.1 ∧ J64 k.2.1 ∧ J64 k.2.2
/-- A basin as its calls leave it. -/
structure Okb (S : Bsn) : Prop where
  r0 : 1 ≤ S.res.length
  r1 : S.res.length ≤ 3
  rr : ∀ r ∈ S.res, 1 ≤ r ∧ r ≤ 9223372036854775807
  s0 : 1 ≤ S.sh
  s1 : S.sh ≤ 4
  m0 : 1 ≤ S.mo
  m1 : S.mo ≤ 1024
  f0 : 1 ≤ S.fl.length
  f1 : S.fl.length ≤ 4
  ff : ∀ f ∈ S.fl, J64 f.nx ∧ J64 f.mt
  bl : (S.ba.length : Int) = (S.res.length : Int) * S.sh
  bf : ∀ p ∈ S.ba, J64 p.1 ∧ J64 p.2
  nd : S.ks.Nodup
  kl : ((S.ks.length : Nat) : Int) ≤ S.mo
  kk : ∀ k ∈ S.ks, KyOk k ∧ 0 ≤ k.1 ∧ k.1 < (S.ba.length : Int)
  cw : ∀ k, Wf (S.cv k)
  cz : ∀ k, k ∉ S.ks → S.cv k = zc
theorem Okb.lan {S : Bsn} (h : Okb S) : 1 ≤ S.ba.length ∧ S.ba.length ≤ 12 := by
  have h1 := h.r0
  have h2 := h.r1
  have h3 := h.s0
  have h4 := h.s1
  have h5 := h.bl
  constructor
  · have : (1 : Int) * 1 ≤ (S.res.length : Int) * S.sh := Int.mul_le_mul (by omega) h3 (by omega) (by omega)
    omega
  · have : (S.res.length : Int) * S.sh ≤ 3 * 4 := Int.mul_le_mul (by omega) h4 (by omega) (by omega)
    omega
theorem wf_kepC {ks : List Kyy} {cv : Kyy → Nat → Int} (h : ∀ k, Wf (cv k)) (k : Kyy) : Wf (kepC ks cv k) := by
  unfold kepC; split
  · exact h k
  · exact wf_zc
theorem okb_drp {S : Bsn} (h : Okb S) : Okb (drpB S) := by
  refine ⟨h.r0, h.r1, h.rr, h.s0, h.s1, h.m0, h.m1, h.f0, h.f1, h.ff, h.bl, h.bf, h.nd.filter _, ?_, fun k hk => h.kk k (List.mem_filter.1 hk).1, wf_kepC h.cw, fun k hk => if_neg hk⟩
  have h1 := h.kl
  have h2 := List.length_filter_le (fun k => !pasB S.ba k) S.ks
  show (((S.ks.filter fun k => !pasB S.ba k).length : Nat) : Int) ≤ S.mo
  omega
theorem mxP_J {c p : Int × Int} (hc : J64 c.1 ∧ J64 c.2) (hp : J64 p.1 ∧ J64 p.2) : J64 (mxP c p).1 ∧ J64 (mxP c p).2 := by
  unfold mxP; split
  · exact hp
  · exact hc
/-- Other bases of the same number. -/
theorem okb_ba {S : Bsn} (h : Okb S) {ba : List (Int × Int)} (hl : ba.length = S.ba.length) (hf : ∀ p ∈ ba, J64 p.1 ∧ J64 p.2) : Okb { S with ba := ba } := by
  refine ⟨h.r0, h.r1, h.rr, h.s0, h.s1, h.m0, h.m1, h.f0, h.f1, h.ff, ?_, hf, h.nd, h.kl, fun k hk => ?_, h.cw, h.cz⟩
  · show (ba.length : Int) = _; rw [hl]; exact h.bl
  · show _ ∧ _ ∧ k.1 < (ba.length : Int); rw [hl]; exact h.kk k hk
theorem okb_fl {S : Bsn} (h : Okb S) {fl : List Flw} (hl : fl.length = S.fl.length) (hf : ∀ f ∈ fl, J64 f.nx ∧ J64 f.mt) : Okb { S with fl := fl } := by
  refine ⟨h.r0, h.r1, h.rr, h.s0, h.s1, h.m0, h.m1, ?_, ?_, hf, h.bl, h.bf, h.nd, h.kl, h.kk, h.cw, h.cz⟩
  · show 1 ≤ fl.length; rw [hl]; exact h.f0
  · show fl.length ≤ 4; rw [hl]; exact h.f1
theorem mem_set {α : Type} {l : List α} {i : Nat} {x y : α} (h : y ∈ l.set i x) : y ∈ l ∨ y = x := List.mem_or_eq_of_mem_set h
theorem okb_lif {S : Bsn} (h : Okb S) {i : Nat} {p : Int × Int} (hp : J64 p.1 ∧ J64 p.2) : Okb (lifB S i p) := by
  unfold lifB
  cases hc : S.ba[i]? with
  | none => exact okb_ba h rfl h.bf
  | some c =>
    refine okb_ba h (by simp) (fun q hq => ?_)
    rcases mem_set hq with hq | rfl
    · exact h.bf q hq
    · exact mxP_J (h.bf c (List.mem_of_getElem? hc)) hp
theorem okb_cut {S : Bsn} (h : Okb S) {ps : List (Int × Int)} (hl : ps.length = S.ba.length) (hp : ∀ p ∈ ps, J64 p.1 ∧ J64 p.2) : Okb (cutB S ps) := by
  refine okb_ba h (by rw [List.length_zipWith, hl, Nat.min_self]) (fun q hq => ?_)
  obtain ⟨i, hi⟩ := List.mem_iff_getElem?.1 hq
  rw [List.getElem?_zipWith] at hi
  cases h1 : S.ba[i]? with
  | none => rw [h1] at hi; simp at hi
  | some c =>
    cases h2 : ps[i]? with
    | none => rw [h1, h2] at hi; simp at hi
    | some p =>
      rw [h1, h2] at hi
      simp at hi
      subst hi
      exact mxP_J (h.bf c (List.mem_of_getElem? h1)) (hp p (List.mem_of_getElem? h2))
theorem okb_pnc {S : Bsn} (h : Okb S) {i : Nat} {t : Int} (ht : J64 t) : Okb (pncB S i t) := by
  unfold pncB
  cases hc : S.fl[i]? with
  | none => exact okb_fl h rfl h.ff
  | some f =>
    refine okb_fl h (by simp) (fun q hq => ?_)
    rcases mem_set hq with hq | rfl
    · exact h.ff q hq
    · have := h.ff f (List.mem_of_getElem? hc)
      unfold pncF; split
      · exact ⟨this.1, ht⟩
      · exact this
theorem okb_nxt {S : Bsn} (h : Okb S) {i : Nat} {n : Int} (ht : J64 n) : Okb (nxtB S i n) := by
  unfold nxtB
  cases hc : S.fl[i]? with
  | none => exact okb_fl h rfl h.ff
  | some f =>
    refine okb_fl h (by simp) (fun q hq => ?_)
    rcases mem_set hq with hq | rfl
    · exact h.ff q hq
    · exact ⟨ht, (h.ff f (List.mem_of_getElem? hc)).2⟩
theorem wf_oneB (s q t v : Int) (hs : J64 s) (hq : J64 q) (ht : J64 t) (hv : J64 v) : Wf (oneF s q t v) := by
  have b1 := wl_bd v
  have b2 := wh_bd v
  have hb : Wf (oneH s q t v) := by
    refine ⟨?_, fun i hi h2 => ?_⟩
    · show 0 ≤ wl v ∧ wl v ≤ _; omega
    · unfold J64 at hs hq ht hv
      unfold oneH
      repeat' split
      all_goals omega
  refine ⟨?_, fun i hi h2 => ?_⟩
  · unfold oneF cup; rw [if_neg (by omega)]; exact hb.1
  · unfold oneF cup; split
    · omega
    · exact hb.2 i hi h2
theorem addK_len (ks : List Kyy) (k : Kyy) : (addK ks k).length = ks.length + if k ∈ ks then 0 else 1 := by
  unfold addK; split
  · rfl
  · simp
theorem mem_addK {ks : List Kyy} {k j : Kyy} : j ∈ addK ks k ↔ j ∈ ks ∨ j = k := by
  unfold addK
  split
  · rename_i h
    constructor
    · exact .inl
    · rintro (h' | rfl)
      · exact h'
      · exact h
  · simp
theorem nd_addK {ks : List Kyy} (h : ks.Nodup) (k : Kyy) : (addK ks k).Nodup := by
  unfold addK; split
  · exact h
  · rename_i hk
    refine List.nodup_append.2 ⟨h, by simp, fun a ha b hb e => ?_⟩
    rw [List.mem_singleton.1 hb] at e
    exact hk (e ▸ ha)
theorem okb_add {S : Bsn} (h : Okb S) {one : Nat → Int} (ho : Wf one) {k : Kyy} (hk : KyOk k ∧ 0 ≤ k.1 ∧ k.1 < (S.ba.length : Int)) (hr : (((addK S.ks k).length : Nat) : Int) ≤ S.mo) : Okb (addB S one k) := by
  refine ⟨h.r0, h.r1, h.rr, h.s0, h.s1, h.m0, h.m1, h.f0, h.f1, h.ff, h.bl, h.bf, nd_addK h.nd k, hr, fun j hj => ?_, fun j => ?_, fun j hj => ?_⟩
  · rcases mem_addK.1 hj with hj | rfl
    · exact h.kk j hj
    · exact hk
  · show Wf (addC S.cv k one j)
    unfold addC; split
    · exact wf_joinF _ (fun c hc => by simp at hc; rcases hc with rfl | rfl; exact h.cw k; exact ho)
    · exact h.cw j
  · show addC S.cv k one j = zc
    have : ¬ (j ∈ S.ks ∨ j = k) := fun e => hj (mem_addK.2 e)
    unfold addC
    rw [if_neg (fun e => this (.inr e))]
    exact h.cz j (fun e => this (.inl e))
end Go.Proofs.Ytfnageillhpjpaa
namespace Go.Proofs.Ytfnageillhpjpaa
set_option maxRecDepth 100000
open Go.RowKit
set_option linter.unusedVariables false

theorem fold_mem (one : Nat → Int) (j : Kyy) : ∀ (l : List Kyy) (S : Bsn), j ∈ (l.foldl (fun T k => addB T one k) S).ks ↔ j ∈ S.ks ∨ j ∈ l
  | [], S => by simp
  | k :: l, S => by
    rw [List.foldl_cons, fold_mem one j l]
    show j ∈ addK S.ks k ∨ _ ↔ _
    rw [mem_addK, List.mem_cons, or_assoc]
theorem fold_same (one : Nat → Int) : ∀ (l : List Kyy) (S : Bsn), (l.foldl (fun T k => addB T one k) S).res = S.res ∧ (l.foldl (fun T k => addB T one k) S).sh = S.sh ∧ (l.foldl (fun T k => addB T one k) S).mo = S.mo ∧ (l.foldl (fun T k => addB T one k) S).fl = S.fl ∧ (l.foldl (fun T k => addB T one k) S).ba = S.ba
  | [], S => ⟨rfl, rfl, rfl, rfl, rfl⟩
  | k :: l, S => by rw [List.foldl_cons]; exact fold_same one l (addB S one k)
theorem fold_len (one : Nat → Int) : ∀ (l : List Kyy) (S : Bsn), l.Nodup → (l.foldl (fun T k => addB T one k) S).ks.length = S.ks.length + misB S l
  | [], S, _ => by simp [misB]
  | k :: l, S, h => by
    obtain ⟨h1, h2⟩ := List.nodup_cons.1 h
    rw [List.foldl_cons, fold_len one l _ h2]
    show (addK S.ks k).length + misB (addB S one k) l = _
    have e : misB (addB S one k) l = misB S l := by
      unfold misB
      congr 1
      apply List.filter_congr
      intro j hj
      show decide (j ∉ addK S.ks k) = decide (j ∉ S.ks)
      rw [decide_eq_decide, mem_addK]
      constructor
      · exact fun h e => h (.inl e)
      · rintro h (e | e)
        · exact h e
        · subst e; exact h1 hj
    rw [e, addK_len]
    have e2 : misB S (k :: l) = (if k ∈ S.ks then 0 else 1) + misB S l := by
      unfold misB
      rw [List.filter_cons]
      by_cases c : k ∈ S.ks
      · simp [c]
      · simp [c]; omega
    omega
theorem mis_take (S : Bsn) (l : List Kyy) (j : Nat) : misB S (l.take j) ≤ misB S l := by
  unfold misB
  exact (List.Sublist.filter _ (List.take_sublist j l)).length_le
theorem okb_fold (one : Nat → Int) (ho : Wf one) : ∀ (l : List Kyy) (S : Bsn), Okb S → l.Nodup → (∀ k ∈ l, KyOk k ∧ 0 ≤ k.1 ∧ k.1 < (S.ba.length : Int)) → ((S.ks.length + misB S l : Nat) : Int) ≤ S.mo → Okb (l.foldl (fun T k => addB T one k) S)
  | [], S, h, _, _, _ => h
  | k :: l, S, h, hn, hk, hr => by
    obtain ⟨h1, h2⟩ := List.nodup_cons.1 hn
    have hl := fold_len one [k] S (by simp)
    have hm := mis_take S (k :: l) 1
    simp only [List.take_succ_cons, List.take_zero] at hm
    have hA : Okb (addB S one k) := okb_add h ho (hk k (by simp)) (by
      have : (addK S.ks k).length = S.ks.length + misB S [k] := hl
      omega)
    rw [List.foldl_cons]
    refine okb_fold one ho l _ hA h2 (fun j hj => hk j (by simp [hj])) ?_
    have e1 := fold_len one (k :: l) S hn
    have e2 := fold_len one l (addB S one k) h2
    rw [List.foldl_cons] at e1
    show (((addB S one k).ks.length + misB (addB S one k) l : Nat) : Int) ≤ S.mo
    omega
theorem flM_lt (y sh : Int) (h : 1 ≤ sh) : 0 ≤ flM y sh ∧ flM y sh < sh := by
  unfold flM
  rw [if_neg (by omega)]
  exact ⟨Int.emod_nonneg _ (by omega), Int.emod_lt_of_pos _ (by omega)⟩
/-- Where the names of an operation lie. -/
theorem idL_mem {t y sh : Int} {res : List Int} (h0 : 1 ≤ sh) (h1 : sh ≤ 4) (hr : res.length ≤ 3) (ht : J64 t) (hy : J64 y) {k : Kyy} (hk : k ∈ idL t y sh res) : KyOk k ∧ 0 ≤ k.1 ∧ k.1 < (res.length : Int) * sh := by
  obtain ⟨j, hj⟩ := List.mem_iff_getElem?.1 hk
  rw [idL_at] at hj
  cases hx : res[j]? with
  | none => rw [hx] at hj; cases hj
  | some r =>
    rw [hx] at hj
    simp only [Option.map_some, Option.some.injEq] at hj
    subst hj
    have hlt := (List.getElem?_eq_some_iff.1 hx).1
    have hm := flM_lt y sh h0
    have hd := flD_bd t r ht.1 ht.2
    have hj0 : 0 ≤ (j : Int) * sh := Int.mul_nonneg (by omega) (by omega)
    have hj1 : (j : Int) * sh ≤ 2 * 4 := Int.mul_le_mul (by omega) h1 (by omega) (by omega)
    have hj2 : (j : Int) * sh + sh ≤ (res.length : Int) * sh := by
      have : ((j : Int) + 1) * sh ≤ (res.length : Int) * sh := Int.mul_le_mul_of_nonneg_right (by omega) (by omega)
      rw [Int.add_mul, Int.one_mul] at this
      exact this
    have e : lnN (j : Int) (flM y sh) sh = (j : Int) * sh + flM y sh := by unfold lnN wrap64; omega
    unfold idAt
    rw [e]
    refine ⟨⟨?_, hd, hy⟩, ?_, ?_⟩
    · show J64 ((j : Int) * sh + flM y sh); unfold J64; omega
    · show 0 ≤ (j : Int) * sh + flM y sh; omega
    · show (j : Int) * sh + flM y sh < _; omega
theorem idL_nodup {t y sh : Int} {res : List Int} (h0 : 1 ≤ sh) (h1 : sh ≤ 4) (hr : res.length ≤ 3) : (idL t y sh res).Nodup := by
  have hm := flM_lt y sh h0
  have key : ∀ i j : Nat, i < j → j < res.length → lnN (i : Int) (flM y sh) sh ≠ lnN (j : Int) (flM y sh) sh := by
    intro i j hij hj e
    have hj0 : 0 ≤ (i : Int) * sh := Int.mul_nonneg (by omega) (by omega)
    have hj1 : (j : Int) * sh ≤ 2 * 4 := Int.mul_le_mul (by omega) h1 (by omega) (by omega)
    have hj2 : ((i : Int) + 1) * sh ≤ (j : Int) * sh := Int.mul_le_mul_of_nonneg_right (by omega) (by omega)
    rw [Int.add_mul, Int.one_mul] at hj2
    unfold lnN wrap64 at e
    omega
  unfold List.Nodup
  rw [List.pairwise_iff_getElem]
  intro i j hi hj hij e
  rw [idL_len] at hi hj
  have e1 := idL_at t y sh res i
  have e2 := idL_at t y sh res j
  rw [List.getElem?_eq_getElem (by rw [idL_len]; exact hi), List.getElem?_eq_getElem hi] at e1
  rw [List.getElem?_eq_getElem (by rw [idL_len]; exact hj), List.getElem?_eq_getElem hj] at e2
  simp only [Option.map_some, Option.some.injEq] at e1 e2
  rw [e1, e2] at e
  exact key i j hij hj (congrArg Prod.fst e)
theorem ids_mem {S : Bsn} (h : Okb S) {o : Op5} (ho : Fit5 o) {k : Kyy} (hk : k ∈ idL o.t o.y S.sh S.res) : KyOk k ∧ 0 ≤ k.1 ∧ k.1 < (S.ba.length : Int) := by
  have := idL_mem h.s0 h.s1 h.r1 ho.t ho.y hk
  rw [h.bl]; exact this
theorem idsB_mem {S : Bsn} (h : Okb S) {o : Op5} (ho : Fit5 o) {k : Kyy} (hk : k ∈ idsB S o) : KyOk k ∧ 0 ≤ k.1 ∧ k.1 < (S.ba.length : Int) := ids_mem h ho (List.mem_filter.1 hk).1
theorem idsB_nodup {S : Bsn} (h : Okb S) (o : Op5) : (idsB S o).Nodup := (idL_nodup h.s0 h.s1 h.r1).filter _
theorem idsB_len (S : Bsn) (o : Op5) : (idsB S o).length ≤ S.res.length := by
  have := List.length_filter_le (fun k => !pasB S.ba k) (idL o.t o.y S.sh S.res)
  rw [idL_len] at this
  exact this
theorem okb_pou {S : Bsn} (h : Okb S) {src : Int} {o : Op5} (ho : Fit5 o) (hs : J64 src) (hr : rooB S o = true) : Okb (pouB S src o) :=
  okb_fold _ (wf_oneB _ _ _ _ hs ho.s ho.t ho.v) _ _ h (idsB_nodup h o) (fun k hk => idsB_mem h ho hk) (of_decide_eq_true hr)
theorem okb_pouK {S : Bsn} (h : Okb S) {src : Int} {o : Op5} (ho : Fit5 o) (hs : J64 src) (hr : rooB S o = true) (j : Nat) : Okb (((idsB S o).take j).foldl (fun T k => addB T (oneF src o.s o.t o.v) k) S) :=
  okb_fold _ (wf_oneB _ _ _ _ hs ho.s ho.t ho.v) _ _ h ((idsB_nodup h o).sublist (List.take_sublist _ _)) (fun k hk => idsB_mem h ho (List.mem_of_mem_take hk)) (by
    have := of_decide_eq_true hr
    have := mis_take S (idsB S o) j
    omega)
/-- What pour leaves. -/
def pouS (S : Bsn) (src : Int) (o : Op5) : Bsn := if rooB S o = true then pouB S src o else S
theorem pouS_yes {S : Bsn} {src : Int} {o : Op5} (h : rooB S o = true) : pouS S src o = pouB S src o := by unfold pouS; rw [if_pos h]
theorem pouS_no {S : Bsn} {src : Int} {o : Op5} (h : rooB S o = false) : pouS S src o = S := by unfold pouS; rw [if_neg (by rw [h]; simp)]
end Go.Proofs.Ytfnageillhpjpaa
