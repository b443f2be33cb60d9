/-
  Plain mathematics: a basin that is fed with least cuts takes everything, as long as there is room.
  Basin's ahead: the places of a lane's cells that are ahead of a place, as they are met.
  Basin's List, over what ahead answers.
  Basin's leastMark, Closed, Mark.
  slices.SortFunc of at most one place; basin's List where there is at most one cell.
  A nil basin; the law's alive.
-/
import Derived.Test.YtoeilckeebojmaaPk48
import Derived.Test.YtoeilckeebojmaaPk45
import Derived.Test.YtoeilckeebojmaaPk25
import Derived.Test.YtoeilckeebojmaaPk46
import Derived.Lib.MinMax
import Derived.Test.YtoeilckeebojmaaPk07
import Derived.Test.YtoeilckeebojmaaPk20
namespace Go.Proofs.Ytoeilckeebojmaa
open Go.RowKit
set_option linter.unusedVariables false
set_option maxRecDepth 100000

theorem drp_np {S : Bsn} (h : npB S) (hz : ∀ k, k ∉ S.ks → S.cv k = zc) : drpB S = S := by
  have h1 : (S.ks.filter fun k => !pasB S.ba k) = S.ks := List.filter_eq_self.2 fun k hk => by rw [h k hk]; rfl
  have h2 : kepC S.ks S.cv = S.cv := by
    funext k
    unfold kepC
    by_cases c : k ∈ S.ks
    · rw [if_pos c]
    · rw [if_neg c, hz k c]
  unfold drpB
  rw [h1, h2]
theorem pl_lst {p : Int × Int} (h : J64 p.1 ∧ J64 p.2) : pl p.1 p.2 lstP.1 lstP.2 = false := by
  unfold J64 at h
  unfold pl lstP
  apply decide_eq_false
  dsimp only
  omega
theorem mxP_lst {p : Int × Int} (h : J64 p.1 ∧ J64 p.2) : mxP p lstP = p := mxP_no (pl_lst h)
theorem zip_lst : ∀ (l c : List (Int × Int)), (∀ p ∈ l, J64 p.1 ∧ J64 p.2) → (∀ p ∈ c, p = lstP) → c.length = l.length → List.zipWith mxP l c = l
  | [], c, _, _, _ => by simp
  | p :: l, [], _, _, h => by simp at h
  | p :: l, q :: c, h1, h2, h3 => by
    rw [List.zipWith_cons_cons, h2 q (by simp), mxP_lst (h1 p (by simp)), zip_lst l c (fun x hx => h1 x (by simp [hx])) (fun x hx => h2 x (by simp [hx])) (by simpa using h3)]
theorem cut_lst {S : Bsn} (hok : Okb S) {cut : List (Int × Int)} (hl : cut.length = S.ba.length) (hc : ∀ p ∈ cut, p = lstP) : cutB S cut = S := by
  unfold cutB
  rw [zip_lst S.ba cut hok.bf hc hl]
/-- Fed with least cuts, nothing is dropped. -/
theorem fdR_lst {S : Bsn} (hok : Okb S) (hn : npB S) {cut : List (Int × Int)} (hl : cut.length = S.ba.length) (hc : ∀ p ∈ cut, p = lstP) (i : Nat) (ops : List Op5) : fdR S i cut ops = takB S i ops := by
  unfold fdR
  rw [cut_lst hok hl hc, drp_np hn hok.cz]
/-- All bases are least. -/
def allL (S : Bsn) : Prop := ∀ p ∈ S.ba, p = lstP
theorem allL_new (n : Nat) (res : List Int) (sh mo : Int) : allL (newBsn n res sh mo) := fun p hp => (List.mem_replicate.1 hp).2
theorem pas_lst {S : Bsn} (h : allL S) {k : Kyy} (hk : KyOk k) : pasB S.ba k = false := by
  unfold pasB
  cases hc : S.ba[k.1.toNat]? with
  | none => rfl
  | some c =>
    have := h c (List.mem_of_getElem? hc)
    subst this
    exact pl_lst hk.2
theorem np_lst {S : Bsn} (h : allL S) (hok : Okb S) : npB S := fun k hk => pas_lst h (hok.kk k hk).1
theorem ids_lst {S : Bsn} (h : allL S) (hok : Okb S) {o : Op5} (ho : Fit5 o) : idsB S o = idL o.t o.y S.sh S.res := by
  unfold idsB
  exact List.filter_eq_self.2 fun k hk => by rw [pas_lst h (ids_mem hok ho hk).1]; rfl
/-- What samples bring, where nothing is ahead of the bases. -/
def takQ (i : Nat) (sh : Int) (res : List Int) (ops : List Op5) : List Tok := (ops.filter fun o => decide (o.k ≠ 2)).flatMap fun o => tokL (i : Int) o (idL o.t o.y sh res)
theorem takQ_mark {i : Nat} {sh : Int} {res : List Int} {o : Op5} (l : List Op5) (h : o.k = 2) : takQ i sh res (o :: l) = takQ i sh res l := by
  unfold takQ
  rw [List.filter_cons, if_neg (by simp [h])]
theorem takQ_samp {i : Nat} {sh : Int} {res : List Int} {o : Op5} (l : List Op5) (h : o.k ≠ 2) : takQ i sh res (o :: l) = tokL (i : Int) o (idL o.t o.y sh res) ++ takQ i sh res l := by
  unfold takQ
  rw [List.filter_cons, if_pos (by simp [h]), List.flatMap_cons]
theorem takQ_append (i : Nat) (sh : Int) (res : List Int) (a b : List Op5) : takQ i sh res (a ++ b) = takQ i sh res a ++ takQ i sh res b := by
  unfold takQ
  rw [List.filter_append, List.flatMap_append]
theorem takQ_len (i : Nat) (sh : Int) (res : List Int) : ∀ (ops : List Op5), (takQ i sh res ops).length ≤ ops.length * res.length
  | [] => by simp [takQ]
  | o :: l => by
    have ih := takQ_len i sh res l
    rw [List.length_cons, Nat.add_mul, Nat.one_mul]
    by_cases h : o.k = 2
    · rw [takQ_mark l h]; omega
    · rw [takQ_samp l h, List.length_append, show (tokL (i : Int) o (idL o.t o.y sh res)).length = res.length by unfold tokL; rw [List.length_map, idL_len]]
      omega
structure LstI (S : Bsn) (T : List Tok) : Prop where
  ok : Okb S
  al : allL S
  tk : TkI S T
  few : S.ks.length ≤ T.length
theorem lst_new {n : Nat} {res : List Int} {sh mo : Int} (h : newOK (n : Int) res sh mo = true) (hr : ∀ r ∈ res, r ≤ 9223372036854775807) : LstI (newBsn n res sh mo) [] := ⟨okb_new h hr, allL_new _ _ _ _, tki_new _ _ _ _, Nat.le_refl _⟩
theorem LstI.np {S : Bsn} {T : List Tok} (h : LstI S T) : npB S := np_lst h.al h.ok
theorem LstI.pnc {S : Bsn} {T : List Tok} (h : LstI S T) (i : Nat) {t : Int} (ht : J64 t) : LstI (pncB S i t) T := by
  obtain ⟨h1, h2, h3, h4, h5, h6⟩ := pnc_same S i t
  exact ⟨okb_pnc h.ok ht, fun p hp => h.al p (by rw [← h4]; exact hp), tki_of h.tk h5 rfl, by rw [h5]; exact h.few⟩
theorem LstI.nxt {S : Bsn} {T : List Tok} (h : LstI S T) (i : Nat) {n : Int} (ht : J64 n) : LstI (nxtB S i n) T := by
  obtain ⟨h1, h2, h3, h4, h5, h6⟩ := nxt_same S i n
  exact ⟨okb_nxt h.ok ht, fun p hp => h.al p (by rw [← h4]; exact hp), tki_of h.tk h5 rfl, by rw [h5]; exact h.few⟩
theorem LstI.roo {S : Bsn} {T : List Tok} (h : LstI S T) (o : Op5) (hr : ((T.length + S.res.length : Nat) : Int) ≤ S.mo) : rooB S o = true := by
  unfold rooB
  apply decide_eq_true
  have h1 := misB_le S (idsB S o)
  have h2 := idsB_len S o
  have h3 := h.few
  omega
theorem LstI.pou {S : Bsn} {T : List Tok} (h : LstI S T) (src : Int) {o : Op5} (hs : J64 src) (ho : Fit5 o) (hr : ((T.length + S.res.length : Nat) : Int) ≤ S.mo) : LstI (pouB S src o) (T ++ tokL src o (idL o.t o.y S.sh S.res)) := by
  obtain ⟨h1, h2, h3, h4, h5⟩ := pou_same S src o
  have hi := ids_lst h.al h.ok ho
  have hm := h.ok.m1
  have hl : (idsB S o).length = S.res.length := by rw [hi, idL_len]
  have ht := tki_pou h.tk h.ok src o hs ho (by omega)
  rw [hi] at ht
  refine ⟨okb_pou h.ok ho hs (h.roo o hr), fun p hp => h.al p (by rw [← h5]; exact hp), ht, ?_⟩
  have h6 := fold_len (oneF src o.s o.t o.v) (idsB S o) S (idsB_nodup h.ok o)
  have h7 := misB_le S (idsB S o)
  have h8 := h.few
  have h9 : (pouB S src o).ks.length = S.ks.length + misB S (idsB S o) := h6
  rw [h9, List.length_append, show (tokL src o (idL o.t o.y S.sh S.res)).length = S.res.length by unfold tokL; rw [List.length_map, idL_len]]
  omega
/-- A row of operations is taken whole. -/
theorem tak_lst (i : Nat) (hs : J64 (i : Int)) : ∀ (ops : List Op5) (S : Bsn) (T : List Tok), LstI S T → (∀ o ∈ ops, Fit5 o) → ((T.length + ops.length * S.res.length : Nat) : Int) ≤ S.mo →
    (takB S i ops).2 = none ∧ LstI (takB S i ops).1 (T ++ takQ i S.sh S.res ops) ∧ StK S (takB S i ops).1
  | [], S, T, h, _, _ => ⟨rfl, by show LstI S (T ++ takQ i S.sh S.res []); rw [show takQ i S.sh S.res [] = [] from rfl, List.append_nil]; exact h, StK.refl S⟩
  | o :: l, S, T, h, hf, hl => by
    rw [List.length_cons, Nat.add_mul, Nat.one_mul] at hl
    have ho := hf o (by simp)
    unfold takB
    rw [List.foldl_cons]
    by_cases hk : o.k = 2
    · rw [stp_mark hk, takQ_mark l hk]
      have hS := stk_pnc S i o.t
      have := tak_lst i hs l (pncB S i o.t) T (h.pnc i ho.t) (fun x hx => hf x (by simp [hx])) (by rw [hS.res, hS.mo]; omega)
      rw [hS.sh, hS.res] at this
      exact ⟨this.1, this.2.1, hS.trans this.2.2⟩
    · have hr : ((T.length + S.res.length : Nat) : Int) ≤ S.mo := by omega
      rw [stp_pour hk (h.roo o hr), takQ_samp l hk]
      have hS := stk_pou S (i : Int) o
      have h2 := h.pou (i : Int) hs ho hr
      have := tak_lst i hs l (pouB S (i : Int) o) _ h2 (fun x hx => hf x (by simp [hx])) (by
        rw [hS.res, hS.mo, List.length_append, show (tokL (i : Int) o (idL o.t o.y S.sh S.res)).length = S.res.length by unfold tokL; rw [List.length_map, idL_len]]
        omega)
      rw [hS.sh, hS.res, List.append_assoc] at this
      exact ⟨this.1, this.2.1, hS.trans this.2.2⟩
/-- What Feed leaves, fed with least cuts. -/
theorem fd_lst {S : Bsn} {T : List Tok} (h : LstI S T) {i : Nat} (hs : J64 (i : Int)) {la : Int} {cut : List (Int × Int)} {ops : List Op5} (hl : cut.length = S.ba.length) (hc : ∀ p ∈ cut, p = lstP) (hf : ∀ o ∈ ops, Fit5 o) (hr : ((T.length + ops.length * S.res.length : Nat) : Int) ≤ S.mo) :
    tkE (fdR S i cut ops) = 0 ∧ fdZ S i la cut ops = nxtB (takB S i ops).1 i (wrap64 (la + 1)) ∧ LstI (fdZ S i la cut ops) (T ++ takQ i S.sh S.res ops) ∧ StK S (fdZ S i la cut ops) := by
  have h1 := fdR_lst h.ok h.np hl hc i ops
  obtain ⟨h2, h3, h4⟩ := tak_lst i hs ops S T h hf hr
  have hz : fdZ S i la cut ops = nxtB (takB S i ops).1 i (wrap64 (la + 1)) := by
    unfold fdZ tkN
    rw [h1, h2]
  refine ⟨by unfold tkE; rw [h1, h2], hz, ?_, ?_⟩
  · rw [hz]; exact h3.nxt i (by unfold J64 wrap64; omega)
  · rw [hz]; exact h4.trans (stk_nxt _ _ _)
end Go.Proofs.Ytoeilckeebojmaa
namespace Go.Proofs.Ytoeilckeebojmaa
open Go.RowKit Go.Maps
set_option linter.unusedVariables false
set_option maxRecDepth 100000

/-- Which of some names are a lane's, ahead of a place; their places. -/
def selK (lane : Int) (pt : Int × Int) (k : Kyy) : Bool := decide (k.1 = lane) && pl k.2.1 k.2.2 pt.1 pt.2
def plsK (lane : Int) (pt : Int × Int) (l : List Kyy) : List (Int × Int) := (l.filter (selK lane pt)).map fun k => k.2
theorem plsK_snoc (lane : Int) (pt : Int × Int) (l : List Kyy) (k : Kyy) : plsK lane pt (l ++ [k]) = plsK lane pt l ++ (if selK lane pt k = true then [k.2] else []) := by
  unfold plsK
  rw [List.filter_append, List.map_append]
  congr 1
  simp only [List.filter_cons, List.filter_nil]
  split <;> simp
theorem plsK_len (lane : Int) (pt : Int × Int) (l : List Kyy) : (plsK lane pt l).length ≤ l.length := by
  unfold plsK
  rw [List.length_map]
  exact List.length_filter_le _ _
/-- How far the range has come. -/
structure Aw (w W : World) (K : Bkk) (S : Bsn) (D : DataW Value) (r : Nat) (got rest : List Kyy) (cnt : Nat) : Prop where
  rg : ∃ left, W.ranges Try.prog 47 hldV K.m r S.ks.length D left cnt ∧ ∀ k, KyOk k → left (kyL k) = decide (k ∈ rest)
  pm : S.ks.Perm (got ++ rest)
  bl : Below w.heap.size w W
  nr : w.heap.size ≤ r
theorem Aw.keep {w W W' : World} {K : Bkk} {S : Bsn} {D : DataW Value} {r : Nat} {got rest : List Kyy} {cnt : Nat} (h : Aw w W K S D r got rest cnt) (hb : Below W.heap.size W W') : Aw w W' K S D r got rest cnt := by
  refine ⟨?_, h.pm, ab_trans h.bl hb, h.nr⟩
  obtain ⟨left, ⟨es, clock, since, seen, c0, h1, h2, h3, h4, h5, h6⟩, hl⟩ := h.rg
  have l1 : K.m < W.heap.size := (Array.getElem?_eq_some_iff.1 h1).1
  have l2 : r < W.heap.size := (Array.getElem?_eq_some_iff.1 h5).1
  exact ⟨left, ⟨es, clock, since, seen, c0, (hb.block _ l1).trans h1, h2, h3, h4, (hb.block _ l2).trans h5, h6⟩, hl⟩
theorem perm_move {ks got rest : List Kyy} {k : Kyy} (h : ks.Perm (got ++ rest)) (hk : k ∈ rest) : ks.Perm (got ++ [k] ++ rest.erase k) := by
  refine h.trans ?_
  rw [List.append_assoc]
  exact List.Perm.append_left got (List.perm_cons_erase hk)
set_option maxHeartbeats 2000000 in
theorem bacoll_any {B : Nat} {K : Bkk} {S : Bsn} (lane : Int) (pt : Int × Int) (w : World) (h : Bq w B K S) (Post : Ending → World → Prop)
    (hPost : ∀ (v : Value) (got : List Kyy) (W : World), S.ks.Perm got → EO E2 38 W w.heap.size v (plsK lane pt got) → Below w.heap.size w W →
      Calls Try.prog 58 #[v, .func (.func 59) #[] #[]] W fun e w' => e = .returned (.tuple #[]) ∧ Post (.returned v) w') :
    Calls Try.prog 48 #[bptr K, .int .i64 lane, Plc pt.1 pt.2] w Post := by
  obtain ⟨A, hE, hX, hw⟩ := blk1 w #[.int .i64 pt.1, .int .i64 pt.2] 38
  have hA := h.keep hw
  obtain ⟨-, -, -, -, -, c5⟩ := hA.cells A (Below.refl _ _)
  obtain ⟨D0, hO, hD⟩ := hA.ce
  rw [hD.sz] at hO
  have HK : Hid (∀ k ∈ S.ks, KyOk k) := fun k hk => (h.ok.kk k hk).1
  have hkl : S.ks.length ≤ 1024 := by have := h.ok.kl; have := h.ok.m1; omega
  have HD : Hid (Dm D0 S.ks S.cv) := hD
  have HND : Hid S.ks.Nodup := h.ok.nd
  clear h hA hD
  generalize hn : S.ks.length = n at *
  have HN : Hid (S.ks.length = n) := hn
  clear hn
  obtain ⟨b, m, gf, cf, gb, cb, vr⟩ := K
  obtain ⟨t0, t1⟩ := pt
  try dsimp only at *
  have HX : Hid (∀ V, Below A.heap.size A V → V.cell? ⟨w.heap.size, 0, none⟩ = some (.int .i64 t0) ∧ V.cell? ⟨w.heap.size, 1, none⟩ = some (.int .i64 t1)) := fun V hb => ⟨(hX.keep hb).at rfl, (hX.keep hb).at rfl⟩
  go_enter Try.func48, Try.ntmps48
  go_wp2_with (at_range; refine wpList_range_own _ rfl _ 91 rfl 47 54 keyed16 Try.underlying91 hldV m n D0 rfl hO ?_; intro w0 hrg0 hg0 hs0)
  go_frame
  have bg0 : Below A.heap.size A w0 := ⟨hg0.os, hg0.tape, hg0.output, hg0.size, fun i hi => hg0.block i hi (by simp)⟩
  have hA0 : Aw A w0 ⟨b, m, gf, cf, gb, cb, vr⟩ S D0 A.heap.size [] S.ks n := by
    refine ⟨⟨_, by rw [HN.out]; rw [HD.out.sz, HN.out] at hrg0; exact hrg0, fun k hk => HD.out.hs k hk⟩, List.Perm.refl _, bg0, Nat.le_refl _⟩
  have hE0 : EO E2 38 w0 A.heap.size (.slice none 0 0) (plsK lane (t0, t1) []) := eo_nil _ _ _ _
  clear hrg0 hg0 c5 hO hE hX hs0 bg0
  go_loopw [7, 17] (fun x _ wr => ∃ got rest cnt, Aw A wr ⟨b, m, gf, cf, gb, cb, vr⟩ S D0 A.heap.size got rest cnt ∧ EO E2 38 wr A.heap.size x (plsK lane (t0, t1) got)) (fun _ _ wr => wr.rangeLeft m A.heap.size)
  case atStart => exact ⟨_, _, _, hA0, hE0⟩
  case round =>
    clear hA0 hE0
    obtain ⟨got, rest, cnt, hW, hE0⟩ := hrel
    obtain ⟨left, hrg, hl⟩ := hW.rg
    rw [HN.out] at hrg
    have HW : Hid (Aw A wr ⟨b, m, gf, cf, gb, cb, vr⟩ S D0 A.heap.size got rest cnt) := hW
    clear hW
    obtain ⟨qx, cx, hxf⟩ := hE0.form
    subst hxf
    have hnn := Nat.le_trans (plsK_len lane (t0, t1) got) (show got.length ≤ n by have := HW.out.pm.length_eq; rw [HN.out, List.length_append] at this; omega)
    generalize hN2 : (plsK lane (t0, t1) got).length = nn at *
    go_wp2_with (at_next; refine wpList_next_ranges _ rfl _ rfl 47 keyed16 hldV (fun x : { k : Kyy // KyOk k } => kyV x.1) id ky_inv2 held_inv m A.heap.size n D0 left cnt rfl hrg ?_ ?_)
    · intro _ hl0
      have hre : rest = [] := by
        cases hr : rest with
        | nil => rfl
        | cons k t =>
          have hk : k ∈ rest := by rw [hr]; simp
          have hko := HK.out k (HW.out.pm.mem_iff.2 (List.mem_append_right _ hk))
          have h1 := hl k hko
          rw [hl0, decide_eq_true hk] at h1
          cases h1
      have hpm : S.ks.Perm got := by
        have := HW.out.pm
        rw [hre, List.append_nil] at this
        exact this
      have HP := hPost (.slice qx nn cx) got wr hpm (own_less hE0 hw.size) (ab_trans hw HW.out.bl)
      clear hrg hl HW hre hpm hPost
      go_wp2_with (go_at_call 58; refine HP.mono ?_; rintro e W2 ⟨rfl, hp⟩)
      exact hp
    · intro ka kb kc hk v kl yd yp w1 cnt1 hkey hlk hv hat hrg1 hlt hg1 hs1 hen
      have hW := HW.out
      obtain rfl : kl = kyL (ka, kb, kc) := by
        rw [key16 hk] at hkey
        exact (Option.some.inj hkey).symm
      have hmem : (ka, kb, kc) ∈ rest := by
        have h1 := hl _ hk
        rw [hlk] at h1
        exact of_decide_eq_true h1.symm
      have b1 : Below A.heap.size A w1 := by
        have hf : Frm (fun k => k = A.heap.size) A w1 := (frm_below (X := fun k => k = A.heap.size) hW.bl).young (frm_grown (X := fun k => k = A.heap.size) hg1 rfl) (fun k hk e => e)
        exact hf.below (Nat.le_refl _) (fun k hk => by omega)
      have hE1 : EO E2 38 w1 A.heap.size (.slice qx nn cx) (plsK lane (t0, t1) got) := by
        refine own_at hE0 fun g hg => hg1.block g (World.ownsRow.lt hE0 g hg).2 (fun e => ?_)
        injection e with e
        obtain ⟨es, clock, since, seen, c0, h1, h2, h3, h4, h5, h6⟩ := hrg
        obtain ⟨cur, fr, e3⟩ := own_kindR hE0 hg
        rw [e] at e3
        rw [h5] at e3
        cases e3
      have hN : Aw A w1 ⟨b, m, gf, cf, gb, cb, vr⟩ S D0 A.heap.size (got ++ [(ka, kb, kc)]) (rest.erase (ka, kb, kc)) cnt1 := by
        refine ⟨⟨_, by rw [HN.out]; exact hrg1, fun k hk' => ?_⟩, perm_move hW.pm hmem, b1, Nat.le_refl _⟩
        have hnd : rest.Nodup := (List.nodup_append.1 (hW.pm.nodup_iff.1 HND.out)).2.1
        rw [same_iff hk' hk, hl k hk']
        by_cases e : k = (ka, kb, kc)
        · subst e
          simp [hnd.not_mem_erase]
        · simp [e, List.mem_erase_of_ne e]
      have HPL : Hid (plsK lane (t0, t1) (got ++ [(ka, kb, kc)]) = plsK lane (t0, t1) got ++ (if selK lane (t0, t1) (ka, kb, kc) = true then [(kb, kc)] else [])) := plsK_snoc _ _ _ _
      have hlt' : Hid (∀ c', c' ≤ cnt1 → c' < cnt) := fun c' h => by show _ < _; omega
      have hleft := hrg.left_eq
      clear hW HW hlk hv hat hs1 hg1 hrg1 hl hE0 hkey hrg
      unfold kyV at hen
      try dsimp only at hen
      obtain ⟨A2, hE2, hX2, hw2⟩ := blk1 w1 #[.int .i64 ka, .int .i64 kb, .int .i64 kc] 47
      have y0 : A2.cell? ⟨w1.heap.size, 0, none⟩ = some (.int .i64 ka) := hX2.at rfl
      have y1 : A2.cell? ⟨w1.heap.size, 1, none⟩ = some (.int .i64 kb) := hX2.at rfl
      have y2 : A2.cell? ⟨w1.heap.size, 2, none⟩ = some (.int .i64 kc) := hX2.at rfl
      obtain ⟨x0, x1⟩ := HX.out A2 (ab_trans b1 hw2)
      have hE2' := hE1.keep hw2
      have hN2' := hN.keep hw2
      clear hE1 hN
      by_cases hla : ka = lane
      · have hl1 : (ka == lane) = true := by simp [hla]
        cases hp : pl kb kc t0 t1
        · have HS : Hid (selK lane (t0, t1) (ka, kb, kc) = false) := by show _ = _; unfold selK; dsimp only; rw [hp, Bool.and_false]
          have HPL' : Hid (plsK lane (t0, t1) (got ++ [(ka, kb, kc)]) = plsK lane (t0, t1) got) := by show _ = _; rw [HPL.out, if_neg (by rw [HS.out]; simp), List.append_nil]
          clear hla HS HPL
          go_wp2_with (go_at_call 51; refine (pless_any _ _ _ _ _).mono ?_; rintro e W2 ⟨rfl, b2⟩; rw [hp])
          have hN3 := hN2'.keep b2
          obtain ⟨left3, hr3, -⟩ := hN3.rg
          go_roundw
          case rel => exact ⟨_, _, _, hN3, by rw [HPL'.out]; exact hE2'.keep b2⟩
          case measure => rw [hr3.left_eq, hleft]; exact hlt'.out _ (Nat.le_refl _)
        · have HS : Hid (selK lane (t0, t1) (ka, kb, kc) = true) := by show _ = _; unfold selK; dsimp only; rw [hp, hla]; simp
          have HPL' : Hid (plsK lane (t0, t1) (got ++ [(ka, kb, kc)]) = plsK lane (t0, t1) got ++ [(kb, kc)]) := by show _ = _; rw [HPL.out, if_pos HS.out]
          clear hla HS HPL
          go_upto_region 6 with (go_at_call 51; refine (pless_any _ _ _ _ _).mono ?_; rintro e W2 ⟨rfl, b2⟩; rw [hp])
          have hN3 := hN2'.keep b2
          have hE3 := hE2'.keep b2
          have hX3 := hX2.keep b2
          have g1 : W2.cell? ⟨w1.heap.size, 1, none⟩ = some (.int .i64 kb) := hX3.at rfl
          have g2 : W2.cell? ⟨w1.heap.size, 2, none⟩ = some (.int .i64 kc) := hX3.at rfl
          clear hE2 y0 y1 y2 x0 x1 hN2' hE2' hX2 hw2
          obtain ⟨A3, hE3', hX3', hw3⟩ := blk1 W2 #[.int .i64 kb, .int .i64 kc] 38
          have hER : ER E2 A3 (.slice (some ⟨W2.heap.size, 0, none⟩) 1 1) [(kb, kc)] := EO.er (e := 38) (base := W2.heap.size) (eo_of (n := 1) (own_blkE (xs := E2.fl [(kb, kc)]) hX3' (Nat.le_refl _) rfl (by unfold maxLen; omega)))
          have hE4 := hE3.keep hw3
          have hN4 := hN3.keep hw3
          have hwW : Below A.heap.size A A3 := hN4.bl
          clear hE3 hN3 hX3 hX3' hw3
          go_wp2_with (at_builtin; refine app_e (E := E2) A rfl rfl Try.underlying36 infoPl2 rfl rfl hE4 rfl hER (by rw [hN2]; show nn + 1 ≤ _; omega) (by rw [hN2]; show (nn + 1) * 16 ≤ _; omega) hwW ?_; intro v5 W5 hE5 hw5 hg5; go_frame)
          have hN5 : Aw A W5 ⟨b, m, gf, cf, gb, cb, vr⟩ S D0 A.heap.size (got ++ [(ka, kb, kc)]) (rest.erase (ka, kb, kc)) cnt1 := by
            refine ⟨?_, hN4.pm, hw5, hN4.nr⟩
            obtain ⟨left', ⟨es, clock, since, seen, c0, h1, h2, h3, h4, h5, h6⟩, hl'⟩ := hN4.rg
            have l1 : m < A3.heap.size := (Array.getElem?_eq_some_iff.1 h1).1
            have l2 : A.heap.size < A3.heap.size := (Array.getElem?_eq_some_iff.1 h5).1
            have n1 : ∀ x o, A3.heap[x]? = some o → (∀ cur fr, o ≠ .cells cur 38 fr) → some x ≠ (Value.slice qx nn cx).ownBlock := fun x o hx ho e => by
              obtain ⟨cur, fr, e3⟩ := own_kindR hE4 e.symm
              rw [hx] at e3
              cases e3
              exact ho _ _ rfl
            exact ⟨left', ⟨es, clock, since, seen, c0, (hg5.block _ l1 (n1 _ _ h1 (fun _ _ h => by cases h))).trans h1, h2, h3, h4, (hg5.block _ l2 (n1 _ _ h5 (fun _ _ h => by cases h))).trans h5, h6⟩, hl'⟩
          obtain ⟨left3, hr3, -⟩ := hN5.rg
          go_roundw
          case rel => exact ⟨_, _, _, hN5, by rw [HPL'.out]; exact hE5⟩
          case measure => rw [hr3.left_eq, hleft]; exact hlt'.out _ (Nat.le_refl _)
      · have hl1 : (ka == lane) = false := by simp [hla]
        have HS : Hid (selK lane (t0, t1) (ka, kb, kc) = false) := by show _ = _; unfold selK; dsimp only; rw [decide_eq_false hla, Bool.false_and]
        have HPL' : Hid (plsK lane (t0, t1) (got ++ [(ka, kb, kc)]) = plsK lane (t0, t1) got) := by show _ = _; rw [HPL.out, if_neg (by rw [HS.out]; simp), List.append_nil]
        clear hla HS HPL
        obtain ⟨left3, hr3, -⟩ := hN2'.rg
        go_wp2_with fail
        go_roundw
        case rel => exact ⟨_, _, _, hN2', by rw [HPL'.out]; exact hE2'⟩
        case measure => rw [hr3.left_eq, hleft]; exact hlt'.out _ (Nat.le_refl _)
end Go.Proofs.Ytoeilckeebojmaa
namespace Go.Proofs.Ytoeilckeebojmaa
open Go.RowKit Go.Maps
set_option linter.unusedVariables false
set_option maxRecDepth 100000

abbrev Ent := (Int × Int) × (Nat → Int)
def entA (x : Ent) : Array Value := (([.int .i64 x.1.1, .int .i64 x.1.2] : List Value) ++ (CA x.2).toList).toArray
theorem entA_size (x : Ent) : (entA x).size = 76 := by simp [entA, CA_size]
def EE : En Ent := ⟨76, fun x => (entA x).toList, fun x => by rw [Array.length_toList, entA_size], fun x u hu => by
  have h1 : u ∈ ([.int .i64 x.1.1, .int .i64 x.1.2] : List Value) ++ (CA x.2).toList := by simpa [entA] using hu
  rcases List.mem_append.1 h1 with h1 | h1
  · simp at h1; rcases h1 with rfl | rfl <;> rfl
  · exact List.all_eq_true.1 (by rw [Array.all_toList]; exact CA_one x.2) u h1, by omega⟩
def zEnt : Ent := ((0, 0), zc)
theorem infoEntB : (Try.prog.info? 107).map (fun i => (i.zero, i.size, i.bytes)) = some (some (.agg (entA zEnt)), 76, 608) := by kernel_rfl
theorem sizeEnt (x : Ent) : (Try.prog.info? 107).map (·.size) = some (entA x).size := by rw [entA_size]; kernel_rfl
theorem built_entB (x y : Int) (c : Nat → Int) : Try.prog.built 107 [(0, .agg #[.int .i64 x, .int .i64 y]), (1, .agg (CA c))] = some (entA ((x, y), c)) := by kernel_rfl
/-- The entries so far, and zeros behind them. -/
def mixE (L : List Ent) (c k : Nat) : List Ent := L.take k ++ List.replicate (c - k) zEnt
theorem mixE_len {L : List Ent} {c k : Nat} (h : L.length = c) (hk : k ≤ c) : (mixE L c k).length = c := by
  unfold mixE; rw [List.length_append, List.length_take, List.length_replicate]; omega
theorem mixE_set {L : List Ent} {c k : Nat} {x : Ent} (h : L.length = c) (hx : L[k]? = some x) : (mixE L c k).set k x = mixE L c (k + 1) := by
  have hk := (List.getElem?_eq_some_iff.1 hx).1
  have hl : (L.take k).length = k := by rw [List.length_take]; omega
  unfold mixE
  rw [List.set_append_right _ _ (by omega), hl, Nat.sub_self, List.take_add_one, hx, show c - k = (c - (k + 1)) + 1 by omega, List.replicate_succ, List.set_cons_zero]
  simp
/-- What List answers of places. -/
def entL (S : Bsn) (lane : Int) (P : List (Int × Int)) (c : Nat) : List Ent := (P.take c).map fun p => (p, S.cv (lane, p))
theorem entL_at {S : Bsn} {lane : Int} {P : List (Int × Int)} {c k : Nat} {p : Int × Int} (hk : k < c) (hp : P[k]? = some p) : (entL S lane P c)[k]? = some (p, S.cv (lane, p)) := by
  unfold entL
  rw [List.getElem?_map, List.getElem?_take_of_lt hk, hp]
  rfl
theorem entL_len {S : Bsn} {lane : Int} {P : List (Int × Int)} {c : Nat} (hc : c ≤ P.length) : (entL S lane P c).length = c := by
  unfold entL; rw [List.length_map, List.length_take]; omega
theorem balist_no {B : Nat} {K : Bkk} {S : Bsn} (n : Int) (p : Int × Int) (mo : Int) (w : World) (h : Bq w B K S) (hn : hasN n S.ba.length = false ∨ mo < 1) :
    Calls Try.prog 24 #[bptr K, .int .i64 n, Plc p.1 p.2, .int .i64 mo] w fun e w' => e = .returned (.slice none 0 0) ∧ Below w.heap.size w w' := by
  obtain ⟨A, hE, hX, hw⟩ := blk1 w #[.int .i64 p.1, .int .i64 p.2] 38
  have HS := bhasL_any n A (h.keep hw)
  clear h
  obtain ⟨b, m, gf, cf, gb, cb, vr⟩ := K
  obtain ⟨p0, p1⟩ := p
  try dsimp only at *
  cases hb : hasN n S.ba.length
  · rw [hb] at HS
    go_enter Try.func24, Try.ntmps24
    go_wp2_with (go_at_call 45; refine HS.mono ?_; rintro e W ⟨rfl, rfl⟩)
    go_ret
    exact ⟨rfl, hw⟩
  · rw [hb] at HS hn
    have hm : mo < 1 := by rcases hn with h | h; cases h; exact h
    go_enter Try.func24, Try.ntmps24
    go_wp2_with (go_at_call 45; refine HS.mono ?_; rintro e W ⟨rfl, rfl⟩)
    go_ret
    exact ⟨rfl, hw⟩
theorem balist_nil (n : Int) (p : Int × Int) (mo : Int) (w : World) :
    Calls Try.prog 24 #[.pointer none, .int .i64 n, Plc p.1 p.2, .int .i64 mo] w fun e w' => e = .returned (.slice none 0 0) ∧ Below w.heap.size w w' := by
  obtain ⟨A, hE, hX, hw⟩ := blk1 w #[.int .i64 p.1, .int .i64 p.2] 38
  obtain ⟨p0, p1⟩ := p
  try dsimp only at *
  go_enter Try.func24, Try.ntmps24
  go_wp2_with (go_at_call 45; refine (bhasL_nil _ _).mono ?_; rintro e W ⟨rfl, rfl⟩)
  go_ret
  exact ⟨rfl, hw⟩
set_option maxHeartbeats 2000000 in
theorem balist_of {B : Nat} {K : Bkk} {S : Bsn} (i : Nat) (pt : Int × Int) (mo : Int) (P : List (Int × Int)) (w : World) (h : Bq w B K S) (hi : i < S.ba.length) (hm : 1 ≤ mo) (hP : P.length ≤ 2000) (hk : ∀ p ∈ P, KyOk ((i : Int), p))
    (hA : ∀ W, Below w.heap.size w W → Calls Try.prog 48 #[bptr K, .int .i64 (i : Int), Plc pt.1 pt.2] W fun e w' => ∃ v, e = .returned v ∧ EO E2 38 w' w.heap.size v P ∧ Below W.heap.size W w') :
    Calls Try.prog 24 #[bptr K, .int .i64 (i : Int), Plc pt.1 pt.2, .int .i64 mo] w fun e w' => ∃ v, e = .returned v ∧ EO EE 107 w' w.heap.size v (entL S (i : Int) P (min mo (P.length : Int)).toNat) ∧ Below w.heap.size w w' := by
  obtain ⟨A, hE, hX, hw⟩ := blk1 w #[.int .i64 pt.1, .int .i64 pt.2] 38
  have hB := h.keep hw
  have HS := bhasL_any (i : Int) A hB
  have hh : hasN (i : Int) S.ba.length = true := decide_eq_true (by omega)
  rw [hh] at HS
  have HA := hA A hw
  have HL : Hid (∀ V k, KyOk k → Below A.heap.size A V → (Instr.lookup 91 (.map (some K.m)) (kyV k) false).run Try.prog V = .ok (.agg (CA (S.cv k))) V) := fun V k hk hb => (hB.ce.keep hb).look hk (h.ok.cz k) false
  have HC : Hid (∀ V, Below A.heap.size A V → V.cell? ⟨K.b, 5, none⟩ = some (.map (some K.m))) := fun V hb => (hB.cells V hb).2.2.2.2.2
  have y0 : A.cell? ⟨w.heap.size, 0, none⟩ = some (.int .i64 pt.1) := hX.at rfl
  have y1 : A.cell? ⟨w.heap.size, 1, none⟩ = some (.int .i64 pt.2) := hX.at rfl
  clear h hB hh hA hX
  obtain ⟨c, hc⟩ : ∃ c : Nat, (min mo (P.length : Int)).toNat = c := ⟨_, rfl⟩
  have hcm : min mo (P.length : Int) = (c : Int) := by omega
  have hcP : c ≤ P.length := by omega
  rw [hc]
  clear hc
  obtain ⟨b, m, gf, cf, gb, cb, vr⟩ := K
  obtain ⟨p0, p1⟩ := pt
  try dsimp only at *
  generalize hnP : P.length = n at *
  go_enter Try.func24, Try.ntmps24
  go_upto_region 4 with (first
    | (go_at_call 45; refine HS.mono ?_; rintro e A ⟨rfl, rfl⟩)
    | (go_at_call 48; refine HA.mono ?_; rintro e W1 ⟨v1, rfl, hO1, b1⟩))
  obtain ⟨q1, c1, e1⟩ := hO1.form
  rw [hnP] at e1
  subst e1
  have HO1 : Hid (EO E2 38 W1 w.heap.size (.slice q1 n c1) P) := hO1
  have hcm' : Hid (min mo (n : Int) = (c : Int)) := hcm
  clear HA HS hE y0 y1 hO1
  go_upto_region 5 with (at_make; refine mk_e (E := EE) rfl zEnt rfl Try.underlying77 infoEntB rfl (c := c) rfl rfl (by first | rfl | exact hcm) (by omega) (by omega) ?_; intro W2 hB2 b2)
  clear hcm
  have hR0 : Rw EE 107 W2 W1.heap.size c (mixE (entL S (i : Int) P c) c 0) := by
    have h1 : mixE (entL S (i : Int) P c) c 0 = List.replicate c zEnt := by unfold mixE; simp
    rw [h1]
    exact ⟨by rw [List.length_replicate]; exact Nat.le_refl _, by unfold maxLen; omega, _, hB2, by simp [EE.fl_len], by simp only []; rw [List.length_replicate]; exact List.take_of_length_le (by rw [EE.fl_len, List.length_replicate]; exact Nat.le_refl _)⟩
  have hA2 := ab_trans b1 b2
  have hO2 := HO1.out.keep b2
  have HG1 : Hid (A.heap.size ≤ W1.heap.size) := b1.size
  have HLe : Hid ((entL S (i : Int) P c).length = c) := entL_len (by omega)
  have hgL : Hid (∀ k p, k < c → P[k]? = some p → (entL S (i : Int) P c)[k]? = some (p, S.cv ((i : Int), p))) := fun k p h1 h2 => entL_at h1 h2
  obtain ⟨L, hLL⟩ : ∃ L, entL S (i : Int) P c = L := ⟨_, rfl⟩
  rw [hLL] at hR0 HLe hgL
  have HLL : Hid (entL S (i : Int) P c = L) := hLL
  clear hLL
  generalize W1.heap.size = g at *
  clear hB2 b2 HO1
  go_wp2_with fail
  go_loopw [32] (fun z wr => ∃ k : Nat, k ≤ c ∧ z = .int .i64 (k : Int) ∧ Rw EE 107 wr g c (mixE L c k) ∧ EO E2 38 wr w.heap.size (.slice q1 n c1) P ∧ Below A.heap.size A wr) (fun z _ => c - (intOf z).toNat)
  case atStart => exact ⟨0, by omega, rfl, hR0, hO2, hA2⟩
  case round =>
    clear hR0 hO2 hA2
    obtain ⟨k, hkc, rfl, hR, hO, hA⟩ := hrel
    by_cases e : k = c
    · subst e
      have HR : Hid (EO EE 107 wr w.heap.size (.slice (some ⟨g, 0, none⟩) k k) L) := by
        have h1 : mixE L k k = L := by unfold mixE; rw [List.take_of_length_le (by have := HLe.out; omega), Nat.sub_self]; simp
        rw [h1] at hR
        have h2 := hR.eo (B := w.heap.size) (Nat.le_trans hw.size HG1.out) (i := k) (by have := HLe.out; omega)
        rw [List.take_of_length_le (by have := HLe.out; omega)] at h2
        exact h2
      go_wp2_with fail
      go_ret
      exact ⟨_, rfl, by rw [HLL.out]; exact HR.out, ab_trans hw hA⟩
    · obtain ⟨p, hp⟩ : ∃ p, P[k]? = some p := ⟨P[k]'(by omega), List.getElem?_eq_getElem (by omega)⟩
      have hkn : (k : Int) < (n : Int) := by omega
      have hki : (k : Int) < (c : Int) := by omega
      have HX : Hid (L[k]? = some (p, S.cv ((i : Int), p))) := hgL.out k p (by omega) hp
      have hkp := hk p (List.mem_of_getElem? hp)
      obtain ⟨qz, capz, gz, offz, ez, -, -, hpz, hcz⟩ := hO.er.at
      rw [hnP] at ez
      injection ez with ez1 ez2 ez3
      subst ez1
      subst ez3
      clear ez2
      rw [hnP] at hpz
      obtain ⟨rfl, hgz⟩ := hpz (by omega)
      have z0 := hcz k p hp 0 _ rfl
      have z1 := hcz k p hp 1 _ rfl
      rw [Nat.add_zero, show E2.k = 2 from rfl] at z0
      rw [show E2.k = 2 from rfl] at z1
      clear hcz hpz hp
      obtain ⟨pa, pb⟩ := p
      try dsimp only at z0 z1
      obtain ⟨A2, hE2, hX2, hw2⟩ := blk1 wr #[.int .i64 pa, .int .i64 pb] 38
      go_upto_region 9 with fail
      have hR2 := hR.keep hw2
      have hO2 := hO.keep hw2
      have hA2 := ab_trans hA hw2
      have hcv : ∀ V, Below A2.heap.size A2 V → (Instr.lookup 91 (.map (some m)) (.agg #[.int .i64 (i : Int), .int .i64 pa, .int .i64 pb]) false).run Try.prog V = .ok (.agg (CA (S.cv ((i : Int), pa, pb)))) V := fun V hb => HL.out V ((i : Int), pa, pb) hkp (ab_trans hA2 hb)
      have HC2 : Hid (∀ V, Below A2.heap.size A2 V → V.cell? ⟨b, 5, none⟩ = some (.map (some m))) := fun V hb => HC.out V (ab_trans hA2 hb)
      have HX2 : Hid (∀ V, Below A2.heap.size A2 V → V.cell? ⟨wr.heap.size, 0, none⟩ = some (.int .i64 pa) ∧ V.cell? ⟨wr.heap.size, 1, none⟩ = some (.int .i64 pb)) := fun V hb => ⟨(hX2.keep hb).at rfl, (hX2.keep hb).at rfl⟩
      generalize S.cv ((i : Int), pa, pb) = cc at *
      clear hE2 z0 z1 hR hO hA hX2 hw2
      refine region_L 13 (S := fun w' => Below A2.heap.size A2 w') (by kernel_rfl) (ab_drew (Below.refl _ _)) (fun hHeld => ?_)
      refine takeP (i := 0) (some 39) (by rfl) rfl rfl (by kernel_rfl) (by kernel_rfl) (by kernel_rfl) (fun _ _ _ h => h) (by rfl) (fun w => by go_simp; try rfl) hHeld ?_
      go_frame
      refine takeP (i := 1) (some 40) (by rfl) rfl rfl (by kernel_rfl) (by kernel_rfl) (by kernel_rfl) (fun _ _ _ h => h) (by rfl) (fun w => by go_simp; try rfl) hHeld ?_
      go_frame
      refine takeL (i := 2) [13] (some 41) (by rfl) rfl rfl (by kernel_rfl) (by kernel_rfl) (by kernel_rfl) (by kernel_rfl) (fun _ _ _ h => h) (by rfl) (fun w hSw => by (try dsimp only at hSw); (obtain ⟨q0, q1⟩ := HX2.out _ hSw; go_simp; try rfl)) hHeld ?_
      go_frame
      refine takeP (i := 3) (some 42) (by rfl) rfl rfl (by kernel_rfl) (by kernel_rfl) (by kernel_rfl) (fun _ _ _ h => h) (by rfl) (fun w => by go_simp; try rfl) hHeld ?_
      go_frame
      refine takeP (i := 4) (some 43) (by rfl) rfl rfl (by kernel_rfl) (by kernel_rfl) (by kernel_rfl) (fun _ _ _ h => h) (by rfl) (fun w => by go_simp; try rfl) hHeld ?_
      go_frame
      refine takeP (i := 5) (some 44) (by rfl) rfl rfl (by kernel_rfl) (by kernel_rfl) (by kernel_rfl) (fun _ _ _ h => h) (by rfl) (fun w => by go_simp; try rfl) hHeld ?_
      go_frame
      refine takeL (i := 6) [13] (some 45) (by rfl) rfl rfl (by kernel_rfl) (by kernel_rfl) (by kernel_rfl) (by kernel_rfl) (fun _ _ _ h => h) (by rfl) (fun w hSw => by (try dsimp only at hSw); (have q5 := HC2.out _ hSw; go_simp; try rfl)) hHeld ?_
      go_frame
      refine takeP (i := 7) (some 46) (by rfl) rfl rfl (by kernel_rfl) (by kernel_rfl) (by kernel_rfl) (fun _ _ _ h => h) (by rfl) (fun w => by go_simp; try rfl) hHeld ?_
      go_frame
      refine takeL (i := 8) [13] (some 47) (by rfl) rfl rfl (by kernel_rfl) (by kernel_rfl) (by kernel_rfl) (by kernel_rfl) (fun _ _ _ h => h) (by rfl) (fun w hSw => by (try dsimp only at hSw); (obtain ⟨q0, q1⟩ := HX2.out _ hSw; go_simp; try rfl)) hHeld ?_
      go_frame
      refine takeP (i := 9) (some 48) (by rfl) rfl rfl (by kernel_rfl) (by kernel_rfl) (by kernel_rfl) (fun _ _ _ h => h) (by rfl) (fun w => by exact bd_run rfl (built_id (i : Int) pa pb) (by simp only [List.map_toArray, List.map_cons, List.map_nil]; rfl) _) hHeld ?_
      go_frame
      refine takeL (i := 10) [13] (some 49) (by rfl) rfl rfl (by kernel_rfl) (by kernel_rfl) (by kernel_rfl) (by kernel_rfl) (fun _ _ _ h => h) (by rfl) (fun w hSw => by (try dsimp only at hSw); exact lkW rfl rfl rfl (hcv _ hSw)) hHeld ?_
      go_frame
      refine takeP (i := 11) (some 50) (by rfl) rfl rfl (by kernel_rfl) (by kernel_rfl) (by kernel_rfl) (fun _ _ _ h => h) (by rfl) (fun w => by exact bd_run rfl (built_entB pa pb cc) (by simp only [List.map_toArray, List.map_cons, List.map_nil]; rfl) _) hHeld ?_
      go_frame
      refine takeL (i := 12) [13] (some 51) (by rfl) rfl rfl (by kernel_rfl) (by kernel_rfl) (by kernel_rfl) (by kernel_rfl) (fun _ _ _ h => h) (by rfl) (fun w hSw => by (try dsimp only at hSw); go_simp; try rfl) hHeld ?_
      go_frame
      have hR3 := hR2.keep hHeld
      have hlt : k < (mixE L c k).length := by rw [mixE_len HLe.out hkc]; omega
      refine anyL_ready (rs := [13]) (by kernel_rfl) (by simp) (AllL.last rfl (by kernel_rfl) (fun K hK => ?_))
      rw [if_pos (by rfl)]
      refine stEW (E := EE) none rfl rfl hR3 hlt ((pa, pb), cc) (entA ((pa, pb), cc)) rfl rfl (by first | rfl | (simp; rfl)) rfl (sizeEnt _) fun W5 hR5 C5 => ?_
      rw [mixE_set HLe.out HX.out] at hR5
      have hO5 : EO E2 38 W5 w.heap.size (.slice (some ⟨gz, offz, none⟩) n c1) P := own_chgT (hO2.keep hHeld) C5 (fun e => absurd ((own_kindR (hO2.keep hHeld) e).uniq (rw_kind hR3)) (by decide))
      have hA5 := ab_chg (ab_trans hA2 hHeld) C5 HG1.out
      refine hK.out _ _ ?_
      clear hK K
      refine anyL_done (by kernel_rfl) ?_
      clear hR2 hR3 hO2 hA2 hHeld C5 hcv HC2 HX2
      go_wp2_with fail
      go_roundw
      case rel => exact ⟨k + 1, by omega, by go_num, hR5, hO5, hA5⟩
      case measure => simp [intOf]; omega
end Go.Proofs.Ytoeilckeebojmaa
namespace Go.Proofs.Ytoeilckeebojmaa
open Go.RowKit Go.Maps
set_option linter.unusedVariables false
set_option maxRecDepth 100000

def lmK (l : List Flw) : Int := l.foldl (fun a f => min a f.mt) 9223372036854775807
theorem lmK_snoc {l : List Flw} {k : Nat} {f : Flw} (h : l[k]? = some f) : lmK (l.take (k + 1)) = min (lmK (l.take k)) f.mt := by
  unfold lmK
  rw [List.take_add_one, h]
  simp only [Option.toList_some, List.foldl_append, List.foldl_cons, List.foldl_nil]
theorem lmK_J : ∀ (l : List Flw) (a : Int), J64 a → (∀ f ∈ l, J64 f.mt) → J64 (l.foldl (fun a f => min a f.mt) a)
  | [], a, h, _ => h
  | f :: l, a, h, hl => lmK_J l _ (by have := hl f (by simp); unfold J64 at *; dsimp only; omega) (fun g hg => hl g (by simp [hg]))
/-- What leastMark answers. -/
def lmB (l : List Flw) : Bool := l.all fun f => f.md
def lmV (l : List Flw) : Int := if lmB l = true then lmK l else 0
theorem lmV_yes {l : List Flw} (h : lmB l = true) : lmV l = lmK l := by unfold lmV; rw [if_pos h]
theorem lmV_no {l : List Flw} (h : lmB l = false) : lmV l = 0 := by unfold lmV; rw [if_neg (by rw [h]; simp)]
set_option maxHeartbeats 1000000 in
theorem baleast_any {B : Nat} {K : Bkk} {S : Bsn} (w : World) (h : Bq w B K S) : Calls Try.prog 46 #[bptr K] w fun e w' => e = .returned (.tuple #[.int .i64 (lmV S.fl), .bool (lmB S.fl)]) ∧ Below w.heap.size w w' := by
  obtain ⟨-, -, -, c3, -, -⟩ := h.cells w (Below.refl _ _)
  have HC : Hid (∀ V k f, Below w.heap.size w V → S.fl[k]? = some f → V.cell? ⟨K.gf, k * 3, none⟩ = some (.int .i64 f.nx) ∧ V.cell? ⟨K.gf, k * 3 + 1, none⟩ = some (.int .i64 f.mt) ∧ V.cell? ⟨K.gf, k * 3 + 2, none⟩ = some (.bool f.md)) := fun V k f hb hf => ⟨(h.keep hb).fe.cell (i := 0) hf rfl, (h.keep hb).fe.cell (i := 1) hf rfl, (h.keep hb).fe.cell (i := 2) hf rfl⟩
  have HJ : Hid (∀ f ∈ S.fl, J64 f.mt) := fun f hf => (h.ok.ff f hf).2
  have hn4 := h.ok.f1
  clear h
  generalize hl : S.fl = l at *
  clear hl
  generalize hn : l.length = n at *
  obtain ⟨b, m, gf, cf, gb, cb, vr⟩ := K
  try dsimp only at *
  go_enter Try.func46, Try.ntmps46
  go_wp2_with fail
  go_loopw [4, 12] (fun x z wr => ∃ k : Nat, k ≤ n ∧ z = .int .i64 (k : Int) ∧ x = .int .i64 (lmK (l.take k)) ∧ (∀ f ∈ l.take k, f.md = true) ∧ Below w.heap.size w wr) (fun _ z _ => n - (intOf z).toNat)
  case atStart => exact ⟨0, by omega, rfl, rfl, fun f hf => by simp at hf, Below.refl _ _⟩
  case round =>
    obtain ⟨k, hk, rfl, rfl, hall, hw⟩ := hrel
    by_cases c : k = n
    · subst c
      rw [List.take_of_length_le (by omega)] at hall ⊢
      have HB : Hid (lmB l = true) := by show _ = _; unfold lmB; rw [List.all_eq_true]; exact hall
      have HV : Hid (lmV l = lmK l) := lmV_yes HB.out
      clear hall
      generalize lmK l = x at *
      go_wp2_with fail
      go_ret2
      exact ⟨by rw [HB.out, HV.out]; rfl, hw⟩
    · obtain ⟨f, hf⟩ : ∃ f, l[k]? = some f := ⟨l[k], List.getElem?_eq_getElem (by omega)⟩
      obtain ⟨z0, z1, z2⟩ := HC.out _ k f hw hf
      have hki : (k : Int) < (n : Int) := by omega
      have HN : Hid (lmK (l.take (k + 1)) = min (lmK (l.take k)) f.mt) := lmK_snoc hf
      have HA : Hid (f.md = true → ∀ g ∈ l.take (k + 1), g.md = true) := by
        intro hm g hg
        rw [List.take_add_one, hf] at hg
        rcases List.mem_append.1 hg with hg | hg
        · exact hall g hg
        · simp at hg; subst hg; exact hm
      have HF : Hid (f.md = false → lmB l = false) := by
        intro hm
        cases hh : lmB l
        · rfl
        · unfold lmB at hh
          rw [List.all_eq_true] at hh
          have := hh f (List.mem_of_getElem? hf)
          rw [hm] at this; cases this
      have hj1 := HJ.out f (List.mem_of_getElem? hf)
      have hj2 : J64 (lmK (l.take k)) := lmK_J _ _ (by unfold J64; omega) (fun g hg => HJ.out g (List.mem_of_mem_take hg))
      generalize lmK (l.take k) = x at *
      obtain ⟨A, hE, hX, hwA⟩ := blk1 wr (flA f) 89
      have y1 : A.cell? ⟨wr.heap.size, 1, none⟩ = some (.int .i64 f.mt) := hX.at rfl
      have y2 : A.cell? ⟨wr.heap.size, 2, none⟩ = some (.bool f.md) := hX.at rfl
      unfold flA at hE
      clear hf hall HC
      unfold J64 at hj1 hj2
      go_upto_region 5 with fail
      clear hE z0 z1 z2
      cases hm : f.md
      · have HB := HF.out hm
        have HB' : Hid (lmB l = false) := HB
        have HV : Hid (lmV l = 0) := lmV_no HB
        rw [hm] at y2
        clear HB
        go_wp2_with fail
        go_ret2
        exact ⟨by rw [HB'.out, HV.out]; rfl, ab_trans hw hwA⟩
      · have HA' : Hid (∀ g ∈ l.take (k + 1), g.md = true) := HA.out hm
        rw [hm] at y2
        go_wp2_with fail
        go_roundw
        case rel => exact ⟨k + 1, by omega, by go_num, by rw [HN.out], HA'.out, ab_trans hw hwA⟩
        case measure => simp [intOf]; omega
/-- What Closed answers. -/
def clsP (S : Bsn) (i : Nat) : Int × Int := if lmB S.fl = true then (flD (lmV S.fl) ((S.res[i / S.sh.toNat]?).getD 0), -9223372036854775808) else (0, 0)
theorem clsP_no {S : Bsn} {i : Nat} (h : lmB S.fl = false) : clsP S i = (0, 0) := by unfold clsP; rw [if_neg (by rw [h]; simp)]
theorem clsP_yes {S : Bsn} {i : Nat} {r : Int} (h : lmB S.fl = true) (hr : S.res[i / S.sh.toNat]? = some r) : clsP S i = (flD (lmV S.fl) r, -9223372036854775808) := by unfold clsP; rw [if_pos h, hr]; rfl
theorem lmV_J {S : Bsn} (h : Okb S) : J64 (lmV S.fl) := by
  unfold lmV
  split
  · exact lmK_J _ _ (by unfold J64; omega) (fun g hg => (h.ff g hg).2)
  · unfold J64; omega
set_option maxHeartbeats 1000000 in
theorem baclosed_no {B : Nat} {K : Bkk} {S : Bsn} (n : Int) (w : World) (h : Bq w B K S) (hn : hasN n S.ba.length = false) :
    Calls Try.prog 22 #[bptr K, .int .i64 n] w fun e w' => e = .returned (.tuple #[Plc 0 0, .bool false]) ∧ Below w.heap.size w w' := by
  obtain ⟨A, hE, hX, hw⟩ := blk1 w #[.int .i64 0, .int .i64 0] 38
  have HS := bhasL_any n A (h.keep hw)
  rw [hn] at HS
  clear h hn
  obtain ⟨b, m, gf, cf, gb, cb, vr⟩ := K
  try dsimp only at *
  go_enter Try.func22, Try.ntmps22
  go_upto_region 2 with (go_at_call 45; refine HS.mono ?_; rintro e W ⟨rfl, rfl⟩)
  clear hE
  go_wp2_with (refine st_blk rfl rfl hX rfl rfl info_plc rfl (by simp [Value.oneCell']) ?_; intro W2 hX2 C2)
  exact bodyPost_ret (results_c2 rfl _ _ _ 38 _ (0, 0) _ _ rfl rfl hX2 Try.underlying38 rfl info_plc) rfl ⟨rfl, ab_chg hw C2 (Nat.le_refl _)⟩
theorem baclosed_nil (n : Int) (w : World) :
    Calls Try.prog 22 #[.pointer none, .int .i64 n] w fun e w' => e = .returned (.tuple #[Plc 0 0, .bool false]) ∧ Below w.heap.size w w' := by
  obtain ⟨A, hE, hX, hw⟩ := blk1 w #[.int .i64 0, .int .i64 0] 38
  go_enter Try.func22, Try.ntmps22
  go_upto_region 2 with (go_at_call 45; refine (bhasL_nil _ _).mono ?_; rintro e W ⟨rfl, rfl⟩)
  clear hE
  go_wp2_with (refine st_blk rfl rfl hX rfl rfl info_plc rfl (by simp [Value.oneCell']) ?_; intro W2 hX2 C2)
  exact bodyPost_ret (results_c2 rfl _ _ _ 38 _ (0, 0) _ _ rfl rfl hX2 Try.underlying38 rfl info_plc) rfl ⟨rfl, ab_chg hw C2 (Nat.le_refl _)⟩
set_option maxHeartbeats 2000000 in
theorem baclosed_at {B : Nat} {K : Bkk} {S : Bsn} (i : Nat) (w : World) (h : Bq w B K S) (hi : i < S.ba.length) :
    Calls Try.prog 22 #[bptr K, .int .i64 (i : Int)] w fun e w' => e = .returned (.tuple #[Plc (clsP S i).1 (clsP S i).2, .bool (lmB S.fl)]) ∧ Below w.heap.size w w' := by
  obtain ⟨A, hE, hX, hw⟩ := blk1 w #[.int .i64 0, .int .i64 0] 38
  have hA := h.keep hw
  have HS := bhasL_any (i : Int) A hA
  have hh : hasN (i : Int) S.ba.length = true := decide_eq_true (by omega)
  have HLm := baleast_any A hA
  rw [hh] at HS
  cases hb : lmB S.fl
  · rw [hb] at HLm
    rw [lmV_no hb] at HLm
    have HP : Hid (clsP S i = (0, 0)) := clsP_no hb
    rw [HP.out]
    clear h hA hh
    obtain ⟨b, m, gf, cf, gb, cb, vr⟩ := K
    try dsimp only at *
    go_enter Try.func22, Try.ntmps22
    go_upto_region 5 with (first
      | (go_at_call 45; refine HS.mono ?_; rintro e A ⟨rfl, rfl⟩)
      | (go_at_call 46; refine HLm.mono ?_; rintro e W3 ⟨rfl, b3⟩))
    clear hE
    have hX3 := hX.keep b3
    go_wp2_with (refine st_blk rfl rfl hX3 rfl rfl info_plc rfl (by simp [Value.oneCell']) ?_; intro W2 hX2 C2)
    exact bodyPost_ret (results_c2 rfl _ _ _ 38 _ (0, 0) _ _ rfl rfl hX2 Try.underlying38 rfl info_plc) rfl ⟨rfl, ab_chg (ab_trans hw b3) C2 (Nat.le_refl _)⟩
  · rw [hb] at HLm
    obtain ⟨sn, hsn⟩ : ∃ sn : Nat, S.sh = (sn : Int) := ⟨S.sh.toNat, by have := h.ok.s0; omega⟩
    have hs1 : 1 ≤ sn := by have := h.ok.s0; omega
    have hs4 : sn ≤ 4 := by have := h.ok.s1; omega
    have hil : i < S.res.length * sn := by
      have h1 := h.ok.bl
      rw [hsn, ← Int.natCast_mul] at h1
      omega
    have hj : i / sn < S.res.length := Nat.div_lt_of_lt_mul (by rwa [Nat.mul_comm])
    obtain ⟨r, hr⟩ : ∃ r, S.res[i / sn]? = some r := ⟨S.res[i / sn], List.getElem?_eq_getElem hj⟩
    have HP : Hid (clsP S i = (flD (lmV S.fl) r, -9223372036854775808)) := clsP_yes hb (by rw [hsn, Int.toNat_natCast]; exact hr)
    have hr2 := (h.ok.rr r (List.mem_of_getElem? hr)).2
    have hmJ := lmV_J h.ok
    rw [HP.out]
    dsimp only
    obtain ⟨q, cap, g, off, he, hc, hm, hp, hg, hrow⟩ := hA.re.is
    obtain rfl := hp (Nat.lt_of_le_of_lt (Nat.zero_le _) hj)
    have HC : Hid (∀ V, Below A.heap.size A V → V.cell? ⟨K.b, 0, none⟩ = some (.slice (some ⟨g, off, none⟩) S.res.length cap) ∧ V.cell? ⟨K.b, 1, none⟩ = some (.int .i64 (sn : Int)) ∧ V.cell? ⟨g, off + i / sn, none⟩ = some (.int .i64 r)) := fun V hb => by
      obtain ⟨c0, c1, -⟩ := hA.cells V hb
      rw [he] at c0
      rw [hsn] at c1
      exact ⟨c0, c1, keep_cell hb (hrow _ _ hr) (hg (Nat.lt_of_le_of_lt (Nat.zero_le _) hj))⟩
    have hq : Int.tdiv (i : Int) (sn : Int) = ((i / sn : Nat) : Int) := by rw [Int.ofNat_tdiv]
    have hj' : ((i / sn : Nat) : Int) < (S.res.length : Int) := by omega
    clear h hA hh hp hrow he hr hg hil hj hsn
    generalize lmV S.fl = lm at *
    generalize S.res.length = nr at *
    generalize i / sn = j at *
    obtain ⟨b, m, gf, cf, gb, cb, vr⟩ := K
    try dsimp only at *
    go_enter Try.func22, Try.ntmps22
    go_upto_region 6 with (first
      | (go_at_call 45; refine HS.mono ?_; rintro e A ⟨rfl, rfl⟩)
      | (go_at_call 46; refine HLm.mono ?_; rintro e W3 ⟨rfl, b3⟩))
    clear hE HS HLm
    have hX3 := hX.keep b3
    have hw3 := ab_trans hw b3
    have hzb : w.heap.size < W3.heap.size := hX3.lt
    have hsn0 : ¬ sn = 0 := by omega
    have hwj : IntKind.i64.wrap (j : Int) = (j : Int) := by simp [IntKind.wrap, IntKind.signed, IntKind.bits] <;> omega
    refine region_L 14 (S := fun w' => Below W3.heap.size W3 w') (by kernel_rfl) (ab_drew (Below.refl _ _)) (fun hHeld => ?_)
    refine takeP (i := 0) (some 21) (by rfl) rfl rfl (by kernel_rfl) (by kernel_rfl) (by kernel_rfl) (fun _ _ _ h => h) (by rfl) (fun w => by go_simp; try rfl) hHeld ?_
    go_frame
    refine takeP (i := 1) (some 22) (by rfl) rfl rfl (by kernel_rfl) (by kernel_rfl) (by kernel_rfl) (fun _ _ _ h => h) (by rfl) (fun w => by go_simp; try rfl) hHeld ?_
    go_frame
    refine takeP (i := 2) (some 23) (by rfl) rfl rfl (by kernel_rfl) (by kernel_rfl) (by kernel_rfl) (fun _ _ _ h => h) (by rfl) (fun w => by go_simp; try rfl) hHeld ?_
    go_frame
    refine takeP (i := 3) (some 24) (by rfl) rfl rfl (by kernel_rfl) (by kernel_rfl) (by kernel_rfl) (fun _ _ _ h => h) (by rfl) (fun w => by go_simp; try rfl) hHeld ?_
    go_frame
    refine takeL (i := 4) [14] (some 25) (by rfl) rfl rfl (by kernel_rfl) (by kernel_rfl) (by kernel_rfl) (by kernel_rfl) (fun _ _ _ h => h) (by rfl) (fun w hSw => by (try dsimp only at hSw); (obtain ⟨q0, q1, q2⟩ := HC.out _ (ab_trans b3 hSw); go_simp; try rfl)) hHeld ?_
    go_frame
    refine takeP (i := 5) (some 26) (by rfl) rfl rfl (by kernel_rfl) (by kernel_rfl) (by kernel_rfl) (fun _ _ _ h => h) (by rfl) (fun w => by go_simp; try rfl) hHeld ?_
    go_frame
    refine takeP (i := 6) (some 27) (by rfl) rfl rfl (by kernel_rfl) (by kernel_rfl) (by kernel_rfl) (fun _ _ _ h => h) (by rfl) (fun w => by go_simp; try rfl) hHeld ?_
    go_frame
    refine takeP (i := 7) (some 28) (by rfl) rfl rfl (by kernel_rfl) (by kernel_rfl) (by kernel_rfl) (fun _ _ _ h => h) (by rfl) (fun w => by go_simp; try rfl) hHeld ?_
    go_frame
    refine takeP (i := 8) (some 29) (by rfl) rfl rfl (by kernel_rfl) (by kernel_rfl) (by kernel_rfl) (fun _ _ _ h => h) (by rfl) (fun w => by go_simp; try rfl) hHeld ?_
    go_frame
    refine takeL (i := 9) [14] (some 30) (by rfl) rfl rfl (by kernel_rfl) (by kernel_rfl) (by kernel_rfl) (by kernel_rfl) (fun _ _ _ h => h) (by rfl) (fun w hSw => by (try dsimp only at hSw); (obtain ⟨q0, q1, q2⟩ := HC.out _ (ab_trans b3 hSw); go_simp; try rfl)) hHeld ?_
    go_frame
    refine takeL (i := 10) [14] (some 31) (by rfl) rfl rfl (by kernel_rfl) (by kernel_rfl) (by kernel_rfl) (by kernel_rfl) (fun _ _ _ h => h) (by rfl) (fun w hSw => by (try dsimp only at hSw); (go_simp; try rfl)) hHeld ?_
    go_frame
    clear hwj hsn0 hq
    refine takeL (i := 11) [14] (some 32) (by rfl) rfl rfl (by kernel_rfl) (by kernel_rfl) (by kernel_rfl) (by kernel_rfl) (fun _ _ _ h => h) (by rfl) (fun w hSw => by (try dsimp only at hSw); (go_simp; try rfl)) hHeld ?_
    go_frame
    refine takeL (i := 12) [14] (some 33) (by rfl) rfl rfl (by kernel_rfl) (by kernel_rfl) (by kernel_rfl) (by kernel_rfl) (fun _ _ _ h => h) (by rfl) (fun w hSw => by (try dsimp only at hSw); (obtain ⟨q0, q1, q2⟩ := HC.out _ (ab_trans b3 hSw); go_simp; try rfl)) hHeld ?_
    go_frame
    refine anyL_ready (rs := [13]) (by kernel_rfl) (by simp) (AllL.cons rfl (fun K hK => ?_) AllL.nil)
    go_simp
    refine (closed_any lm r _ hmJ.1 hmJ.2 hr2).mono ?_
    rintro e W4 ⟨rfl, b4⟩
    show K _ _
    have hX4 := (hX3.keep hHeld).keep b4
    refine hK.out _ _ (ab_trans hHeld b4) (fun hHeld => ?_)
    clear hK K
    refine anyL_ready (rs := [14]) (by kernel_rfl) (by simp) (AllL.last rfl (by kernel_rfl) (fun K hK => ?_))
    rw [if_pos (by rfl)]
    refine stW none rfl rfl hX4 rfl rfl info_plc rfl (by simp [Value.oneCell']) fun W5 hX5 C5 => ?_
    refine hK.out _ _ ?_
    clear hK K
    refine anyL_ready (rs := [15]) (by kernel_rfl) (by simp) (AllL.free rfl (by kernel_rfl) (fun K hK => ?_))
    go_simp
    refine hK.out _ _ ?_
    clear hK K
    refine anyL_done (by kernel_rfl) ?_
    have hw5 := ab_chg (ab_trans hw3 hHeld) C5 (Nat.le_refl _)
    go_wp2_with fail
    exact bodyPost_ret (results_c2 rfl _ _ _ 38 _ (0, 0) _ _ rfl rfl hX5 Try.underlying38 rfl info_plc) rfl ⟨rfl, hw5⟩
end Go.Proofs.Ytoeilckeebojmaa
namespace Go.Proofs.Ytoeilckeebojmaa
open Go.RowKit Go.Maps
set_option linter.unusedVariables false
set_option maxRecDepth 100000

theorem bains_one (q : Option Addr) (n cap : Nat) (fv : Value) (hn : n ≤ 1) (w : World) : Calls Try.prog 76 #[.slice q n cap, .int .i64 0, .int .i64 (n : Int), fv] w fun e w' => e = .returned (.tuple #[]) ∧ w' = w := by
  have h : n = 0 ∨ n = 1 := by omega
  rcases h with rfl | rfl
  all_goals
    go_enter Try.func76, Try.ntmps76
    go_wp2_with fail
    refine wp_loop_rounds 1 ?_
    rw [rounds_succ]
    go_wp2_with fail
    exact bodyPost_end (results_none rfl _ _ _) rfl ⟨rfl, rfl⟩
theorem bapdq_one (q : Option Addr) (n cap : Nat) (x : Int) (fv : Value) (hn : n ≤ 1) (w : World) : Calls Try.prog 68 #[.slice q n cap, .int .i64 0, .int .i64 (n : Int), .int .i64 x, fv] w fun e w' => e = .returned (.tuple #[]) ∧ w' = w := by
  have h : n = 0 ∨ n = 1 := by omega
  rcases h with rfl | rfl
  all_goals
    go_enter Try.func68, Try.ntmps68
    go_wp2_with fail
    refine wp_loop_rounds 1 ?_
    rw [rounds_succ]
    go_wp2_with (go_at_call 76; refine (bains_one _ _ _ _ (by omega) _).mono ?_; rintro e w ⟨rfl, rfl⟩)
    exact bodyPost_ret (results_none rfl _ _ _) rfl ⟨rfl, rfl⟩
theorem balen_one (n : Nat) (hn : n ≤ 1) (w : World) : Calls Try.prog 69 #[.int .u64 (n : Int)] w fun e w' => (∃ x : Int, e = .returned (.int .i64 x)) ∧ w' = w := by
  have h : n = 0 ∨ n = 1 := by omega
  rcases h with rfl | rfl
  all_goals
    go_enter Try.func69, Try.ntmps69
    go_wp2_with (go_in)
    go_ret
    exact ⟨⟨_, rfl⟩, rfl⟩
theorem basort_one (q : Option Addr) (n cap : Nat) (fv : Value) (hn : n ≤ 1) (w : World) : Calls Try.prog 58 #[.slice q n cap, fv] w fun e w' => e = .returned (.tuple #[]) ∧ w' = w := by
  go_enter Try.func58, Try.ntmps58
  go_wp2_with (first
    | (go_at_call 69; refine (balen_one _ hn _).mono ?_; rintro e w ⟨⟨x, rfl⟩, rfl⟩)
    | (go_at_call 68; refine (bapdq_one _ _ _ _ _ hn _).mono ?_; rintro e w ⟨rfl, rfl⟩))
  exact bodyPost_end (results_none rfl _ _ _) rfl ⟨rfl, rfl⟩
end Go.Proofs.Ytoeilckeebojmaa
namespace Go.Proofs.Ytoeilckeebojmaa
open Go.RowKit Go.Maps
set_option linter.unusedVariables false
set_option maxRecDepth 100000

theorem bafeed_nil (src fr la : Int) (q q2 : Option Addr) (n c n2 c2 : Nat) (w : World) : Calls Try.prog 11 #[.pointer none, .int .i64 src, .int .i64 fr, .int .i64 la, .slice q n c, .slice q2 n2 c2] w fun e w' => e = .returned (Err 2) ∧ w' = w := by
  go_enter Try.func11, Try.ntmps11
  go_wp2_with (go_at_call 33; refine (bhasS_nil _ _).mono ?_; rintro e W ⟨rfl, rfl⟩)
  go_ret
  exact ⟨rfl, rfl⟩
theorem babase_nil (n : Int) (w : World) : Calls Try.prog 21 #[.pointer none, .int .i64 n] w fun e w' => e = .returned (Plc 0 0) ∧ Below w.heap.size w w' := by
  obtain ⟨A, hE, hX, hw⟩ := blk1 w #[.int .i64 0, .int .i64 0] 38
  go_enter Try.func21, Try.ntmps21
  go_upto_region 2 with (go_at_call 45; refine (bhasL_nil _ _).mono ?_; rintro e W ⟨rfl, rfl⟩)
  clear hE
  go_wp2_with (refine st_blk rfl rfl hX rfl rfl info_plc rfl (by simp [Value.oneCell']) ?_; intro W2 hX2 C2)
  exact bodyPost_ret (results_cell_row rfl _ _ _ 38 _ (0, 0) _ rfl hX2 Try.underlying38 rfl info_plc) rfl ⟨rfl, ab_chg hw C2 (Nat.le_refl _)⟩
theorem bacell_nil (k : Kyy) (w : World) : Calls Try.prog 14 #[.pointer none, kyV k] w fun e w' => e = .returned (.tuple #[.agg (CA zc), .bool false]) ∧ Below w.heap.size w w' := by
  obtain ⟨ka, kb, kc⟩ := k
  unfold kyV
  try dsimp only
  obtain ⟨A1, hE, hX, hw1⟩ := blk1 w #[.int .i64 ka, .int .i64 kb, .int .i64 kc] 47
  go_enter Try.func14, Try.ntmps14
  go_upto_region 2 with (refine al_cell rfl rfl ?_; intro W1 e1 hR1 hg1)
  rw [← e1]
  clear e1 hE
  go_wp2_with (first
    | (go_at_call 40; refine (unit_any _).mono ?_; rintro e W2 ⟨rfl, b2⟩; have hR2 := hR1.keep b2)
    | (refine st_cell rfl rfl hR2 rfl rfl ?_; intro W3 hR3 C3))
  exact bodyPost_ret (results_c2 rfl _ _ _ 54 _ (0, 0) _ _ rfl rfl hR3 Try.underlying54 rfl (info_cell _)) rfl ⟨rfl, ab_chg (ab_trans (ab_trans hw1 hg1) b2) C3 (by have := hX.lt; omega)⟩
theorem is_one {W : World} {g : Nat} {x : Int} (h : Blk W g #[.int .i64 x] 3) : Is W (.slice (some ⟨g, 0, none⟩) 1 1) [x] := by
  refine ⟨some ⟨g, 0, none⟩, 1, g, 0, rfl, Nat.le_refl _, by omega, fun _ => rfl, fun _ => h.lt, fun j y hj => ?_⟩
  match j, hj with
  | 0, hj => simp at hj; subst hj; exact h.at rfl
  | j + 1, hj => simp at hj
theorem er_blk {α : Type} {E : En α} {e : TypeId} {W : World} {g n : Nat} {l : List α} {xs : Array Value} (h : Blk W g xs e) (hx : xs.toList = E.fl l) (hn : l.length = n) (hm : n ≤ 1000000) : ER E W (.slice (some ⟨g, 0, none⟩) n n) l := by
  subst hn
  refine ⟨some ⟨g, 0, none⟩, l.length, g, 0, rfl, Nat.le_refl _, by omega, fun _ => ⟨rfl, h.lt⟩, fun j u hu => ?_⟩
  rw [Nat.zero_add, h.cell, ← hu, ← hx]
  simp
theorem stay_young {α : Type} {E : En α} {K : Bkk} {w : World} {g n c o : Nat} {l : List α} (h : ER E w (.slice (some ⟨g, o, none⟩) n c) l) (hx : ∀ k, bkB K k → k < g) : Stay E K w (.slice (some ⟨g, o, none⟩) n c) l :=
  stay_out h (fun a n' c' e hk => by injection e with e1; injection e1 with e1; subst e1; exact absurd (hx _ hk) (Nat.lt_irrefl _))
def alO1 : Op5 := ⟨1, 1, 5, 1, 7⟩
def alO2 : Op5 := ⟨2, 2, 10, 0, 0⟩
def alS0 : Bsn := newBsn 1 [10] 1 9
theorem al_ks : (fdZ alS0 0 2 [lstP] [alO1, alO2]).ks = [(0, 0, 1)] := by kernel_rfl
theorem al_fl : (fdZ alS0 0 2 [lstP] [alO1, alO2]).fl = [⟨3, 10, true⟩] := by kernel_rfl
theorem al_ba : (fdZ alS0 0 2 [lstP] [alO1, alO2]).ba = [lstP] := by kernel_rfl
theorem al_res : (fdZ alS0 0 2 [lstP] [alO1, alO2]).res = [10] ∧ (fdZ alS0 0 2 [lstP] [alO1, alO2]).sh = 1 := ⟨by kernel_rfl, by kernel_rfl⟩
theorem al_e : tkE (fdR alS0 0 [lstP] [alO1, alO2]) = 0 := by kernel_rfl
theorem al_cv : (fdZ alS0 0 2 [lstP] [alO1, alO2]).cv (0, 0, 1) 0 = 1 := by kernel_rfl
theorem al_cls : clsP (fdZ alS0 0 2 [lstP] [alO1, alO2]) 0 = (1, -9223372036854775808) := by kernel_rfl
theorem al_lm : lmB (fdZ alS0 0 2 [lstP] [alO1, alO2]).fl = true := by kernel_rfl
theorem al_dr : (drpB (lifB (fdZ alS0 0 2 [lstP] [alO1, alO2]) 0 (1, -9223372036854775808))).ks = [] := by kernel_rfl
theorem al_new : newOK 1 [10] 1 9 = true := by decide
theorem al_form : fdF alS0 (0 : Nat) 1 2 [lstP] [alO1, alO2] := by
  refine ⟨by decide, by decide, by unfold wrap64; omega, ?_, ?_⟩
  · intro o ho
    simp at ho
    rcases ho with rfl | rfl <;> decide
  · simp [alO1, alO2]
theorem bld_pl (x y : Int) (w : World) : (Instr.buildSlice 36 1 #[(0, .agg #[.int .i64 x, .int .i64 y])]).run Try.prog w = .ok (.slice (some ⟨w.heap.size, 0, none⟩) 1 1) (w.alloc (.cells #[.int .i64 x, .int .i64 y] 38)) := bapl1 x y w
theorem bld_op2 (a b : Op5) (w : World) : (Instr.buildSlice 22 2 #[(0, opV a), (1, opV b)]).run Try.prog w = .ok (.slice (some ⟨w.heap.size, 0, none⟩) 2 2) (w.alloc (.cells #[.int .i64 a.s, .int .i64 a.k, .int .i64 a.t, .int .i64 a.y, .int .i64 a.v, .int .i64 b.s, .int .i64 b.k, .int .i64 b.t, .int .i64 b.y, .int .i64 b.v] 27)) := by kernel_rfl
set_option maxHeartbeats 4000000 in
theorem alive16_any (w : World) : Calls Try.prog 8 #[] w fun e w' => e = .returned (.bool true) ∧ Below w.heap.size w w' := by
  obtain ⟨A, hE, hX, hw⟩ := blk1 w #[.int .i64 10] 3
  have HN := banew_ok 1 _ [10] 1 9 A (is_one hX) (fun r hr => by simp at hr; omega) al_new
  go_enter Try.func8, Try.ntmps8
  go_upto_region 4 with (go_at_call 9; refine HN.mono ?_; rintro e W1 ⟨⟨K, rfl, hB1⟩, b1⟩)
  have hzK : ∀ k, bkB K k → k < W1.heap.size := fun k hk => (hB1.bks hk).2
  have hB1' : Bq W1 A.heap.size K alS0 := hB1
  have hbA := ab_trans hw b1
  have hge : ∀ k, bkB K k → w.heap.size ≤ k := fun k hk => Nat.le_trans hw.size (hB1.bks hk).1
  clear hE HN hX hB1
  go_upto_region 5 with (first
    | (go_at_call 10; refine (rleast_any _).mono ?_; rintro e W2 ⟨rfl, b2⟩
       obtain ⟨W3, hE3, hX3, b3⟩ := blk1 W2 #[.int .i64 (-9223372036854775808), .int .i64 (-9223372036854775808)] 38
       obtain ⟨W4, hE4, hX4, b4⟩ := blk1 W3 #[.int .i64 1, .int .i64 1, .int .i64 5, .int .i64 1, .int .i64 7, .int .i64 2, .int .i64 2, .int .i64 10, .int .i64 0, .int .i64 0] 27
       have hB4 := ((hB1'.keep b2).keep b3).keep b4
       have HF := bafeed_ok 0 1 2 (.slice (some ⟨W2.heap.size, 0, none⟩) 1 1) (.slice (some ⟨W3.heap.size, 0, none⟩) 2 2) [lstP] [alO1, alO2] W4 hB4
         (stay_young (er_blk (hX3.keep b4) rfl rfl (by omega)) (fun k hk => Nat.lt_of_lt_of_le (hzK k hk) b2.size)) (stay_young (er_blk hX4 rfl rfl (by omega)) (fun k hk => Nat.lt_of_lt_of_le (hzK k hk) (Nat.le_trans b2.size b3.size))) al_form (f := newFl) rfl rfl
         (fun p hp => by simp at hp; subst hp; unfold lstP J64; dsimp only; omega) (fun o ho => by simp at ho; rcases ho with rfl | rfl <;> (constructor <;> (unfold J64; decide))) (by unfold J64; omega))
    | (go_at_call 11; refine HF.mono ?_; rintro e W5 ⟨rfl, hB5, hF5⟩; rw [al_e, errV_ok rfl]))
  have hw4 : Below w.heap.size w W4 := ab_trans (ab_trans (ab_trans hbA b2) b3) b4
  have hw5 : Below w.heap.size w W5 := hw4.trans (hF5.below hw4.size hge)
  have k1 := al_ks
  have k2 := al_fl
  have k3 := al_ba
  have k4 := al_cv
  have k5 := al_cls
  have k6 := al_lm
  have k7 := al_dr
  generalize fdZ alS0 0 2 [lstP] [alO1, alO2] = S1 at *
  clear hF5 HF hB4 hX3 hX4 hE3 hE4 b2 b3 b4 hB1' hzK hw4 hbA
  have hkk : KyOk (0, 0, 1) := by unfold KyOk J64; dsimp only; omega
  have HCe := bacell_any (0, 0, 1) W5 hB5 hkk
  have hin : decide ((0, 0, 1) ∈ S1.ks) = true := by rw [k1]; decide
  rw [hin] at HCe
  unfold kyV at HCe
  dsimp only at HCe
  have hcc0 : Hid (S1.cv (0, 0, 1) 0 = 1) := k4
  generalize S1.cv (0, 0, 1) = cc at *
  have hba : S1.ba.length = 1 := by rw [k3]; rfl
  go_upto_region 6 with (first
    | (go_at_call 14; refine HCe.mono ?_; rintro e W6 ⟨rfl, b6⟩)
    | (refine al_cell rfl rfl ?_; intro W7 e7 hX7 b7; clear e7)
    | (refine st_cell rfl rfl hX7 rfl rfl ?_; intro W8 hX8 C8))
  have b58 : Below W5.heap.size W5 W8 := ab_chg (ab_trans b6 b7) C8 b6.size
  have hB8 := hB5.keep b58
  have hw8 := ab_trans hw5 b58
  have HCl := baclosed_at 0 W8 hB8 (by omega)
  rw [k5, k6] at HCl
  have x0 : ∀ V, Below W8.heap.size W8 V → V.cell? ⟨W6.heap.size, 0, none⟩ = some (.int .i64 1) := fun V hb => by
    have := (hX8.keep hb).at (CA_at64 cc 0 (by omega) (by omega))
    rw [hcc0.out] at this
    exact this
  have hx6 : ¬ bkB K W6.heap.size := by
    rintro (e | e | e)
    · exact absurd ((rw_kind hB8.fe).uniq (e ▸ hX8.kindR)) (by decide)
    · exact absurd ((rw_kind hB8.be).uniq (e ▸ hX8.kindR)) (by decide)
    · exact hB8.ce.noKind 54 (e ▸ hX8.kindR)
  clear HCe hX7 b6 b7 C8 b58 hB5 hw5
  generalize W6.heap.size = g6 at *
  go_upto_region 7 with (go_at_call 22; refine HCl.mono ?_; rintro e W9 ⟨rfl, b9⟩; obtain ⟨W10, hE10, hX10, b10⟩ := blk1 W9 #[.int .i64 1, .int .i64 (-9223372036854775808)] 38)
  have hB10 := (hB8.keep b9).keep b10
  have b810 := ab_trans b9 b10
  have hw10 := ab_trans hw8 b810
  have HLi := balist_of 0 (1, -9223372036854775808) 9 [(0, 1)] W10 hB10 (by omega) (by omega) (by simp) (fun p hp => by simp at hp; subst hp; exact hkk) (fun W hW => by
    refine bacoll_any (0 : Int) (1, -9223372036854775808) W (hB10.keep hW) _ ?_
    intro v got V hpm hO hV
    have hgot : got = [(0, 0, 1)] := by
      rw [k1] at hpm
      exact (List.singleton_perm.1 hpm).symm
    subst hgot
    have hpl : plsK 0 (1, -9223372036854775808) [(0, 0, 1)] = [(0, 1)] := by decide
    rw [hpl] at hO
    obtain ⟨q, cap, rfl⟩ := hO.form
    refine (basort_one q 1 cap _ (by omega) V).mono ?_
    rintro e V2 ⟨rfl, rfl⟩
    exact ⟨rfl, ⟨_, rfl, own_less hO hW.size, hV⟩⟩)
  have hel : (min (9 : Int) (([((0 : Int), (1 : Int))] : List (Int × Int)).length : Int)).toNat = 1 := by decide
  rw [hel] at HLi
  have y0 : W10.cell? ⟨W9.heap.size, 0, none⟩ = some (.int .i64 1) := hX10.at rfl
  have y1 : W10.cell? ⟨W9.heap.size, 1, none⟩ = some (.int .i64 (-9223372036854775808)) := hX10.at rfl
  go_upto_region 8 with (go_at_call 24; refine HLi.mono ?_; rintro e W11 ⟨v11, rfl, hO11, b11⟩)
  obtain ⟨q11, c11, e11⟩ := hO11.form
  have hel2 : (entL S1 ((0 : Nat) : Int) [((0 : Int), (1 : Int))] 1).length = 1 := rfl
  rw [hel2] at e11
  subst e11
  have hB11 := hB10.keep b11
  have hX11 := hX10.keep b11
  have hw11 := ab_trans hw10 b11
  have b811 := ab_trans b810 b11
  have HRa := baraise_ok 0 (1, -9223372036854775808) W11 hB11 (by omega) (by unfold J64; dsimp only; omega)
  rw [k1, k7] at HRa
  have g0 : W11.cell? ⟨W9.heap.size, 0, none⟩ = some (.int .i64 1) := hX11.at rfl
  have g1 : W11.cell? ⟨W9.heap.size, 1, none⟩ = some (.int .i64 (-9223372036854775808)) := hX11.at rfl
  have hx9 : ¬ bkB K W9.heap.size := fun hk => absurd (hB8.bks hk).2 (Nat.not_lt.2 b9.size)
  have hX8' := hX8.keep b811
  have hLen := fun (V : World) (hq : Bq V A.heap.size K (drpB (lifB S1 0 (1, -9223372036854775808)))) => blen_any V hq
  rw [k7] at hLen
  clear HLi HCl y0 y1 x0 hO11 hX10 hB10 hB8 hE10 hX8
  go_wp2_with (first
    | (go_at_call 18; refine HRa.mono ?_; rintro e W12 ⟨rfl, hB12, hF12⟩
       have z0 : W12.cell? ⟨W9.heap.size, 0, none⟩ = some (.int .i64 1) := (hX11.frm hF12 hx9).at rfl
       have z1 : W12.cell? ⟨W9.heap.size, 1, none⟩ = some (.int .i64 (-9223372036854775808)) := (hX11.frm hF12 hx9).at rfl
       have z2 : W12.cell? ⟨g6, 0, none⟩ = some (.int .i64 1) := (by
         have := (hX8'.frm hF12 hx6).at (CA_at64 cc 0 (by omega) (by omega))
         rw [hcc0.out] at this
         exact this))
    | (go_at_call 16; refine (hLen _ hB12).mono ?_; rintro e W12 ⟨rfl, rfl⟩))
  go_ret
  exact ⟨by first | rfl | simp, hw11.trans (hF12.below hw11.size hge)⟩
end Go.Proofs.Ytoeilckeebojmaa
