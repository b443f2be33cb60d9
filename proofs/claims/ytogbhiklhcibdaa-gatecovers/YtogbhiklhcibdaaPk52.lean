/-
  How the loops of GateCovers go on, in plain words; what of memory stays while its basin turns.
-/
import Derived.Test.YtogbhiklhcibdaaPk50
import Derived.Test.YtogbhiklhcibdaaPk51
import Derived.Test.YtogbhiklhcibdaaPk46
import Derived.Test.YtogbhiklhcibdaaPk43
import Derived.Maps.RangeWalk
namespace Go.Proofs.Ytogbhiklhcibdaa
open Go.RowKit Go.Maps Go.ChangeMaps Go.MapKept
set_option linter.unusedVariables false
set_option maxRecDepth 100000

/-- The basin on the way. -/
structure CvJ (S : Bsn) (T : List Tok) (cl : Int × Int) : Prop where
  np : npB S
  cv : CvI S T
  two : S.ba.length = 2
  lm : lmB S.fl = true
  cl : ∀ i, i < 2 → clsP S i = cl
theorem cvj_start {S : Bsn} {T : List Tok} {r mark : Int} {base : Int × Int} (h : CvS S T r mark base) : CvJ S T (flD mark r, -9223372036854775808) :=
  ⟨h.np, h.cv, by rw [h.ba]; rfl, h.lm, h.cl⟩
theorem cvj_rai {S : Bsn} {T : List Tok} {cl c p : Int × Int} {i : Nat} (h : CvJ S T cl) (hc : S.ba[i]? = some c) (hp : pl c.1 c.2 p.1 p.2 = true) : CvJ (drpB (lifB S i p)) T cl :=
  ⟨np_drp _, cvi_rai h.cv i p, by show (lifB S i p).ba.length = 2; rw [lif_ba hc hp, List.length_set]; exact h.two, h.lm, h.cl⟩
theorem gnI_eq {S : Bsn} {T : List Tok} {cl c : Int × Int} {j t : Nat} (h : CvJ S T cl) (hj : j < 2) (hc : S.ba[j]? = some c) (t1 : 1 ≤ t) (t16 : t ≤ 16) : gnI S 1 (j : Int) (t : Int) = pl c.1 c.2 cl.1 cl.2 := by
  unfold gnI
  rw [decide_eq_true (show (1 : Int) ≤ 1 ∧ 1 ≤ (t : Int) ∧ (t : Int) ≤ 16 by omega), show hasN (j : Int) S.ba.length = true from decide_eq_true (by rw [h.two]; omega), h.lm, Int.toNat_natCast, hc, h.cl j hj]
  rfl
/-- How many rounds are left at most. -/
def cvM (S : Bsn) (cl : Int × Int) (j : Nat) (c : Int × Int) : Nat := (lisP S j cl).length + (if pl c.1 c.2 cl.1 cl.2 = true then 1 else 0)
theorem cv_next {S : Bsn} {T : List Tok} {cl c : Int × Int} {j t : Nat} (hok : Okb S) (h : CvJ S T cl) (hj : j < 2) (hc : S.ba[j]? = some c) (t1 : 1 ≤ t) (t16 : t ≤ 16) (hg : pl c.1 c.2 cl.1 cl.2 = true) (hJ : J64 cl.1 ∧ J64 cl.2) :
    CvB S T j t c cl (gnB S 1 j t) ∧ CvJ (drpB (lifB S j (gnB S 1 j t).tt)) T cl ∧ (drpB (lifB S j (gnB S 1 j t).tt)).ba[j]? = some (gnB S 1 j t).tt ∧
      (∀ i, i ≠ j → (lisP (drpB (lifB S j (gnB S 1 j t).tt)) i cl).length = (lisP S i cl).length) ∧ cvM (drpB (lifB S j (gnB S 1 j t).tt)) cl j (gnB S 1 j t).tt < cvM S cl j c ∧
      (drpB (lifB S j (gnB S 1 j t).tt)).ba = S.ba.set j (gnB S 1 j t).tt := by
  have hB := cv_batch hok h.np h.cv hc t1 t16 (by rw [h.cl j hj]; exact hg) (by rw [h.cl j hj]; exact hJ)
  rw [h.cl j hj] at hB
  generalize gnB S 1 j t = X at *
  have e1 : (drpB (lifB S j X.tt)).ba = S.ba.set j X.tt := lif_ba hc hB.up
  refine ⟨hB, cvj_rai h hc hB.up, ?_, fun i hi => by rw [lisP_other h.np hi hc hB.up], ?_, e1⟩
  · rw [e1, List.getElem?_set_self (List.getElem?_eq_some_iff.1 hc).1]
  · unfold cvM
    have h1 := hB.cnt
    have h2 := hB.fin
    rw [if_pos hg]
    by_cases e : X.en.length = 0
    · rw [h2 e] at h1 ⊢
      rw [if_neg (by rw [pl_irr]; simp)]
      omega
    · split <;> omega
/-- The names that a range has left. -/
def remK (M : List Kyy) (left : Lit → Bool) (p : Kyy → Bool) : Nat := (M.filter fun k => left (kyL k) && p k).length
theorem remK_step {x : Kyy} (hx : KyOk x) {left : Lit → Bool} (hl : left (kyL x) = true) (p : Kyy → Bool) : ∀ (M : List Kyy), M.Nodup → (∀ k ∈ M, KyOk k) →
    remK M (fun z => left z && !z.sameKey (kyL x)) p + (if x ∈ M ∧ p x = true then 1 else 0) = remK M left p
  | [], _, _ => by simp [remK]
  | k :: M, hM, hok => by
    have ih := remK_step hx hl p M (List.nodup_cons.1 hM).2 fun j hj => hok j (List.mem_cons_of_mem _ hj)
    have hk := hok k (List.mem_cons_self ..)
    have hn := (List.nodup_cons.1 hM).1
    unfold remK at ih ⊢
    have hsk : (kyL k).sameKey (kyL x) = decide (k = x) := same_iff hk hx
    by_cases e : k = x
    · subst e
      have f1 : (left (kyL k) && !(kyL k).sameKey (kyL k) && p k) = false := by rw [hsk]; simp
      rw [List.filter_cons_of_neg (by rw [f1]; simp)]
      rw [if_neg (fun h => hn h.1)] at ih
      by_cases hp : p k = true
      · rw [if_pos ⟨List.mem_cons_self .., hp⟩, List.filter_cons_of_pos (by rw [hl, hp]; rfl), List.length_cons]
        omega
      · rw [if_neg (fun h => hp h.2), List.filter_cons_of_neg (by simp [hp])]
        omega
    · have f1 : (left (kyL k) && !(kyL k).sameKey (kyL x) && p k) = (left (kyL k) && p k) := by rw [hsk, decide_eq_false e]; simp
      have f2 : (x ∈ k :: M ∧ p x = true) ↔ (x ∈ M ∧ p x = true) := by
        rw [List.mem_cons]
        constructor
        · rintro ⟨h1 | h1, h2⟩
          · exact absurd h1.symm e
          · exact ⟨h1, h2⟩
        · rintro ⟨h1, h2⟩; exact ⟨.inr h1, h2⟩
      have f3 : (if x ∈ k :: M ∧ p x = true then 1 else 0) = (if x ∈ M ∧ p x = true then (1 : Nat) else 0) := by
        by_cases h : x ∈ M ∧ p x = true
        · rw [if_pos h, if_pos (f2.2 h)]
        · rw [if_neg h, if_neg (fun g => h (f2.1 g))]
      rw [f3]
      cases hq : (left (kyL k) && p k)
      · rw [List.filter_cons_of_neg (by rw [f1, hq]; simp), List.filter_cons_of_neg (by rw [hq]; simp)]
        exact ih
      · rw [List.filter_cons_of_pos (by rw [f1, hq]), List.filter_cons_of_pos (by rw [hq]), List.length_cons, List.length_cons]
        omega
theorem remK_end {M : List Kyy} {left : Lit → Bool} {p : Kyy → Bool} (h : ∀ l, left l = false) : remK M left p = 0 := by
  unfold remK
  rw [List.length_eq_zero_iff, List.filter_eq_nil_iff]
  intro k hk
  rw [h]; simp
theorem remK_start {M : List Kyy} {left : Lit → Bool} {p : Kyy → Bool} (h : ∀ k ∈ M, left (kyL k) = true) : remK M left p = (M.filter p).length := by
  unfold remK
  congr 1
  apply List.filter_congr
  intro k hk
  rw [h k hk]; rfl
theorem ranges_keep {D : DataW Value} {W W' : World} {m r n cnt : Nat} {left : Lit → Bool} (h : W.ranges Try.prog 40 hldV m r n D left cnt) (hb : Below W.heap.size W W') : W'.ranges Try.prog 40 hldV m r n D left cnt := by
  obtain ⟨es, clock, since, seen, c0, h1, h2, h3, h4, h5, h6⟩ := h
  have l1 : m < W.heap.size := (Array.getElem?_eq_some_iff.1 h1).1
  have l2 : r < W.heap.size := (Array.getElem?_eq_some_iff.1 h5).1
  exact ⟨es, clock, since, seen, c0, (hb.block _ l1).trans h1, h2, h3, h4, (hb.block _ l2).trans h5, h6⟩
/-- The map of slices stays while what lies ahead of it turns. -/
theorem Gm.frm {W W' : World} {B m : Nat} {T : List Tok} {X : Nat → Prop} (h : Gm W B m T) (hf : Frm X W W') (hX : ∀ k, X k → k < B) (hm : B ≤ m) : Gm W' B m T := by
  obtain ⟨D, f, ⟨es, clock, hb, F, hs, hD⟩, hd⟩ := h
  have hlt : m < W.heap.size := (Array.getElem?_eq_some_iff.1 hb).1
  exact ⟨D, f, ⟨es, clock, (hf.other m hlt (fun hx => by have := hX m hx; omega)).trans hb, F, hs, hD⟩, ⟨hd.sz, hd.hs, hd.is, hd.no, fun k hk => own_at (hd.own k hk) (fun g hg => by
    have h1 := World.ownsRow.lt (hd.own k hk) g hg
    exact hf.other g h1.2 (fun hx => by have := hX g hx; omega)), hd.ap, hd.ok⟩⟩
theorem Gm.chg {W W' : World} {B m ba : Nat} {T : List Tok} {vs : Array Value} (h : Gm W B m T) (hA : Blk W ba vs 24) (C : Chg ba W W') : Gm W' B m T := by
  obtain ⟨D, f, ⟨es, clock, hb, F, hs, hD⟩, hd⟩ := h
  have hlt : m < W.heap.size := (Array.getElem?_eq_some_iff.1 hb).1
  refine ⟨D, f, ⟨es, clock, (C.other m (fun e => map_noKind hb 24 (e ▸ hA.kindR))).trans hb, F, hs, hD⟩, ⟨hd.sz, hd.hs, hd.is, hd.no, fun k hk => own_at (hd.own k hk) (fun g hg => C.other g (fun e => ?_)), hd.ap, hd.ok⟩⟩
  have h1 := eo_kindM (hd.own k hk) hg
  rw [e] at h1
  exact absurd (h1.uniq hA.kindR) (by decide)
/-- 'm[k]', the same in all worlds in which nothing of it has turned. -/
theorem Gm.look2 {w : World} {B m : Nat} {T : List Tok} {k : Kyy} (h : Gm w B m T) (hk : KyOk k) :
    ∃ v, EO E6 43 w B v (flK T k) ∧ ∀ V, Below w.heap.size w V → (Instr.lookup 33 (.map (some m)) (kyV k) false).run Try.prog V = .ok v V := by
  obtain ⟨D, f, ⟨es, clock, hb, F, hs, hD⟩, hd⟩ := h
  have hlt : m < w.heap.size := (Array.getElem?_eq_some_iff.1 hb).1
  refine ⟨f k, hd.own k hk, fun V hV => ?_⟩
  have hown : V.ownsMap Try.prog 40 hldV m (Maps.size D) D := ⟨es, clock, (hV.block m hlt).trans hb, F, hs, hD⟩
  obtain ⟨v, ps, hrun, hR⟩ := hown.lookup keyed16 Try.underlying33 (zero_sms V) (zd := .held (.slice none 0 0)) (zp := []) rfl (key16 hk)
  have hv : v = f k := by
    unfold hldV at hR
    injection hR with hR
    have h1 := congrArg Prod.fst hR
    dsimp only at h1
    by_cases hm : k ∈ T.map (·.1)
    · rw [hd.is k hk hm] at h1
      injection h1
    · have h2 : Maps.has D (kyL k) = false := by rw [hd.hs k hk]; exact decide_eq_false hm
      rw [atKey_of_not_has h2] at h1
      injection h1 with h1
      rw [h1, ← hd.no k hk hm]
  rw [← hv]
  exact hrun
theorem lkG {o : Oper} {ρ : Operand → Value} {x y : Operand} {b : Nat} {k : Kyy} {v : Value} {w : World} (ho : o.op = .lookup 33 x y false) (hx : ρ x = .map (some b)) (hy : ρ y = kyV k)
    (h : (Instr.lookup 33 (.map (some b)) (kyV k) false).run Try.prog w = .ok v w) : (execOp ρ o).run Try.prog w = .ok (.value v) w := by
  unfold execOp
  simp only [ho, hx, hy, Sem.run_bind, h, Result.andThen_ok, Sem.run_pure]
theorem lw_bt {ops : Array Oper} {rest : List Oper} {o : Oper} {a : Act} {w : World} {Q : Exit → Act → World → Prop} (hw : Region.wanted o (yielded ops a.tmps) = true) {x : Operand} {b : Nat} {vs : Array Value} {t : TypeId} (ho : o.op = .load 48 x) (hx : a.eval x = .pointer (some ⟨b, 0, none⟩)) (hB : Blk w b vs t)
    (hi : (Try.prog.info? 48).map (·.size) = some vs.size) (h : wpList Try.prog ops Q rest (a.put o.dst (.agg vs)) w) : wpList Try.prog ops Q (o :: rest) a w :=
  valS hw _ (by
    unfold execOp
    simp only [ho, hx, Instr.loadAt, Instr.sureAddr, Sem.run_bind, Sem.run_pure, Result.andThen_ok, run_loadVar_row w b t 48 vs (0, 0) _ hB Try.underlying48 rfl hi]) h
theorem cneq17_run (c d : Nat → Int) (w : World) : (binOp .neq 61 (.agg (CA c)) (.agg (CA d))).run Try.prog w = .ok (.bool (!eqC c d)) w := by
  have h := eq_cell c d w
  rw [run_eql_struct] at h
  rw [run_neq_struct]
  generalize (Op.equalIn 10000 61 (.agg (CA c)) (.agg (CA d))).run Try.prog w = R at *
  cases R <;> simp_all [Result.andThen]
theorem cneq17 {o : Oper} {ρ : Operand → Value} {x y : Operand} {t' : TypeId} {c d : Nat → Int} (ho : o.op = .binOp .neq 61 x y t') (hx : ρ x = .agg (CA c)) (hy : ρ y = .agg (CA d)) (he : eqC c d = true) (w : World) :
    (execOp ρ o).run Try.prog w = .ok (.value (.bool false)) w := by
  unfold execOp
  simp only [ho, hx, hy, Sem.run_bind, eq_guard, cneq17_run, he, Result.andThen_ok, Sem.run_pure, Bool.not_true]
/-- 'Of' of a name's samples. -/
theorem gc_of {w : World} {B : Nat} {v : Value} {T : List Tok} {k : Kyy} (hO : EO E6 43 w B v (flK T k)) (hf : ∀ x ∈ T, FitT x) (hn : T.length ≤ 150) :
    Calls Try.prog 12 #[v] w fun e w' => e = .returned (.agg (CA (JL (smK T k)))) ∧ Below w.heap.size w w' := by
  obtain ⟨q', cp, g', o', rfl, hp', hg', hrow⟩ := srow_E6 hO.er (fun x hx => hf x (List.mem_filter.1 hx).1)
  exact rcof_any q' g' o' (flK T k).length cp ((flK T k).map tkF) w (by rw [List.length_map]) (by have := flK_len T k; omega) hp' hg' hrow (wf_sm hf)
theorem idsT_few (T : List Tok) : (idsT T).length ≤ T.length := by
  have : ∀ (l : List Tok) (out : List Kyy), (l.foldl (fun out x => addK out x.1) out).length ≤ out.length + l.length := by
    intro l
    induction l with
    | nil => intro out; simp
    | cons x l ih =>
      intro out
      rw [List.foldl_cons]
      have h1 := ih (addK out x.1)
      have h2 : (addK out x.1).length ≤ out.length + 1 := by unfold addK; split <;> simp
      rw [List.length_cons]
      omega
  have h := this T []
  unfold idsT
  simpa using h
/-- How many cells are still to come. -/
def lft (S : Bsn) (cl : Int × Int) (j : Nat) : Nat := if j = 0 then (lisP S 0 cl).length + (lisP S 1 cl).length else if j = 1 then (lisP S 1 cl).length else 0
theorem lft_end {S : Bsn} {cl : Int × Int} {j : Nat} (hj : j < 2) (h : (lisP S j cl).length = 0) : lft S cl (j + 1) = lft S cl j := by
  have : j = 0 ∨ j = 1 := by omega
  rcases this with rfl | rfl
  · unfold lft; simp [h]
  · unfold lft; simp [h]
theorem lft_one {S : Bsn} {cl : Int × Int} {j : Nat} (hj : j < 2) : (lisP S j cl).length ≤ lft S cl j := by
  have : j = 0 ∨ j = 1 := by omega
  rcases this with rfl | rfl <;> unfold lft <;> simp
theorem lft_step {S S' : Bsn} {cl : Int × Int} {j n : Nat} (hj : j < 2) (h : (lisP S' j cl).length + n = (lisP S j cl).length) (ho : ∀ i, i ≠ j → (lisP S' i cl).length = (lisP S i cl).length) : lft S' cl j + n = lft S cl j := by
  have : j = 0 ∨ j = 1 := by omega
  rcases this with rfl | rfl
  · have := ho 1 (by omega)
    unfold lft; simp only [if_true]; omega
  · unfold lft; simp only [if_neg (show ¬ (1 : Nat) = 0 by omega), if_true]; omega
/-- What is in memory while the lanes are gone through. -/
structure GcM (W2 V : World) (b0 : Nat) (K : Bkk) (bc : Nat) (cl : Int × Int) (T : List Tok) (S : Bsn) : Prop where
  bq : Bq V b0 K S
  gm : Gm V W2.heap.size W2.heap.size T
  cb : Blk V bc #[.int .i64 cl.1, .int .i64 cl.2] 24
  fr : Frm (bkB K) W2 V
  kx : ∀ k, bkB K k → b0 ≤ k ∧ k < W2.heap.size
  bc : W2.heap.size ≤ bc
  old : OldK W2.heap.size K
theorem GcM.keep {W2 V V' : World} {b0 : Nat} {K : Bkk} {bc : Nat} {cl : Int × Int} {T : List Tok} {S : Bsn} (h : GcM W2 V b0 K bc cl T S) (hb : Below V.heap.size V V') : GcM W2 V' b0 K bc cl T S :=
  ⟨h.bq.keep hb, h.gm.keep hb, h.cb.keep hb, h.fr.trans (frm_below hb), h.kx, h.bc, h.old⟩
theorem GcM.rai {W2 V V' : World} {b0 : Nat} {K : Bkk} {bc : Nat} {cl : Int × Int} {T : List Tok} {S S' : Bsn} (h : GcM W2 V b0 K bc cl T S) (hq : Bq V' b0 K S') (hf : Frm (bkB K) V V') : GcM W2 V' b0 K bc cl T S' :=
  ⟨hq, h.gm.frm hf (fun k hk => (h.kx k hk).2) (Nat.le_refl _), h.cb.frm hf (fun hx => by have := (h.kx _ hx).2; have := h.bc; omega), h.fr.trans hf, h.kx, h.bc, h.old⟩
theorem GcM.put {W2 V V' : World} {b0 : Nat} {K : Bkk} {bc ba : Nat} {cl : Int × Int} {T : List Tok} {S : Bsn} {vs : Array Value} (h : GcM W2 V b0 K bc cl T S) (hA : Blk V ba vs 24) (hge : W2.heap.size ≤ ba) (hne : ba ≠ bc) (C : Chg ba V V') : GcM W2 V' b0 K bc cl T S :=
  ⟨h.bq.oldf h.old (frm_chg (X := fun k => k = ba) C rfl) (fun k e => e ▸ hge), h.gm.chg hA C, h.cb.frm (frm_chg (X := fun k => k = ba) C rfl) (fun e => hne e.symm), h.fr.young (frm_chg (X := fun k => k = ba) C rfl) (fun k hk e => by subst e; omega), h.kx, h.bc, h.old⟩
theorem GcM.below {W2 V A : World} {b0 : Nat} {K : Bkk} {bc : Nat} {cl : Int × Int} {T : List Tok} {S : Bsn} (h : GcM W2 V b0 K bc cl T S) (hA : Below A.heap.size A W2) (h0 : A.heap.size ≤ b0) : Below A.heap.size A V :=
  hA.trans (h.fr.below hA.size (fun k hk => Nat.le_trans h0 (h.kx k hk).1))
theorem GcM.size {W2 V : World} {b0 : Nat} {K : Bkk} {bc : Nat} {cl : Int × Int} {T : List Tok} {S : Bsn} (h : GcM W2 V b0 K bc cl T S) : W2.heap.size ≤ V.heap.size := h.fr.size
end Go.Proofs.Ytogbhiklhcibdaa
