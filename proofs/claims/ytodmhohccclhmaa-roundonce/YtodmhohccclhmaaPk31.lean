/-
  A letter of whatever kind is delivered.
  What a new round leaves in a net.
-/
import Derived.Test.YtodmhohccclhmaaPk27
import Derived.Test.YtodmhohccclhmaaPk28
import Derived.Test.YtodmhohccclhmaaPk29
import Derived.Test.YtodmhohccclhmaaPk30
import Derived.Test.YtodmhohccclhmaaPk25
namespace Go.Proofs.Ytodmhohccclhmaa
open Go.RowKit
set_option linter.unusedVariables false
set_option maxRecDepth 100000

theorem deliver_any (W0 : World) (wb : Nat) (P : NwP) (S : Net) (acc : Nat → Nat → Prop) (l : LD) (w : World) (h : Nw W0 w W0.heap.size wb P S) (hI : Inv acc S) (R : Rd) (hr : S.rd[l.r]? = some R) (hl : LtOK acc S (ltOf l) R) (hm : Im W0 w W0.heap.size l.rv l.l ∧ Im W0 w W0.heap.size l.vv l.m) (hsz : S.lt.length ≤ 3000) :
    Calls Try.prog 31 #[nptr wb, .agg (lC l)] w fun e w' => e = .returned (.tuple #[]) ∧ Dlv W0 w w' W0.heap.size wb S 5 := by
  have h4 : l.kd ≤ 4 := hl.k4
  have hk : l.k < S.rg.length := by rw [hI.rl]; exact hl.kn
  obtain ⟨x, hx⟩ : ∃ x, S.rg[l.k]? = some x := ⟨S.rg[l.k], List.getElem?_eq_getElem _⟩
  by_cases e0 : l.kd = 0
  · by_cases hq : prN x l.b = 0
    · exact deliver_ask0y W0 wb P S acc l w h hI R hr hl hm hsz e0 (fun y hy => by rw [hx] at hy; cases hy; exact hq)
    · exact deliver_ask0n W0 wb P S acc l w h hI R hr hl hm hsz e0 (fun y hy => by rw [hx] at hy; cases hy; exact hq)
  by_cases e1 : l.kd = 1
  · by_cases hq : acN x l.b l.m = 0
    · exact deliver_ask1y W0 wb P S acc l w h hI R hr hl hm hsz e1 (fun y hy => by rw [hx] at hy; cases hy; exact hq)
    · exact deliver_ask1n W0 wb P S acc l w h hI R hr hl hm hsz e1 (fun y hy => by rw [hx] at hy; cases hy; exact hq)
  exact deliver_back W0 wb P S acc l w h hI R hr hl hm hsz (by omega)
end Go.Proofs.Ytodmhohccclhmaa
namespace Go.Proofs.Ytodmhohccclhmaa
open Go.RowKit
set_option linter.unusedVariables false
set_option maxRecDepth 100000

/-- The ballot of a node's last round. -/
theorem Nw.lastC {W0 W : World} {B wb : Nat} {P : NwP} {S : Net} (h : Nw W0 W B wb P S) {who : Nat} (hw : who < 3) : ∃ x, S.la[who]? = some x ∧ (∀ V, Below W.heap.size W V → V.cell? ⟨wb, 3 + who * 3, none⟩ = some (.int .i64 x.n)) ∧ (∀ V, Below W.heap.size W V → V.cell? ⟨wb, 3 + who * 3 + 1, none⟩ = some (.int .i64 x.nd)) ∧ (∀ V, Below W.heap.size W V → V.cell? ⟨wb, 3 + who * 3 + 2, none⟩ = some (.int .i64 x.lf)) := by
  obtain ⟨x, y, z, e, hB⟩ := h.blk
  have : who = 0 ∨ who = 1 ∨ who = 2 := by omega
  rcases this with rfl | rfl | rfl
  · exact ⟨x, by rw [e]; rfl, hB.cellV (i := 3) rfl, hB.cellV (i := 4) rfl, hB.cellV (i := 5) rfl⟩
  · exact ⟨y, by rw [e]; rfl, hB.cellV (i := 6) rfl, hB.cellV (i := 7) rfl, hB.cellV (i := 8) rfl⟩
  · exact ⟨z, by rw [e]; rfl, hB.cellV (i := 9) rfl, hB.cellV (i := 10) rfl, hB.cellV (i := 11) rfl⟩
theorem Nw.roundsF {W0 W : World} {B wb : Nat} {P : NwP} {S : Net} (h : Nw W0 W B wb P S) : ∃ q c, P.rv = .slice q S.rd.length c := by
  rcases h.rds.2 with ⟨h1, h2⟩ | ⟨g, cap, cur, h1, _⟩
  · rw [h2]; exact ⟨none, 0, h1⟩
  · exact ⟨_, _, h1⟩
theorem Rn.less {G : Nat → Prop} {W : World} {B B' b mp ma : Nat} {R : Rd} (h : Rn G W B b mp ma R) (hB : B' ≤ B) : Rn G W B' b mp ma R := by
  obtain ⟨vo, vn, vv, hBk, i1, i2, i3⟩ := h.mem
  refine ⟨Nat.le_trans hB h.geb, Nat.le_trans hB h.gep, Nat.le_trans hB h.gea, h.ne, ⟨vo, vn, vv, hBk, i1.less hB, i2.less hB, i3.less hB⟩, ?_, h.am, h.ok⟩
  obtain ⟨D, h1, h2, h3⟩ := h.pm
  refine ⟨D, h1, h2, fun k x hk => ?_⟩
  have := h3 k x hk
  cases x with
  | none => exact this
  | some x =>
    obtain ⟨a, l⟩ := x
    obtain ⟨h4, q, c, h5, h6⟩ := this
    exact ⟨h4, q, c, h5, h6.less hB⟩
/-- The last ballot of a node is stored. -/
theorem last_stored {W : World} {wb n gr : Nat} {rv cv lv : Value} {x y z : Bt} {who : Nat} (b : Bt) (hw : who < 3) (h : Blk W wb (nwC n gr rv cv x y z lv) 43) : ∃ x' y' z', [x, y, z].set who b = [x', y', z'] ∧ Blk (W.setCells wb (3 + who * 3) (bC b).toList) wb (nwC n gr rv cv x' y' z' lv) 43 ∧ Chg wb W (W.setCells wb (3 + who * 3) (bC b).toList) ∧ W.there wb (3 + who * 3) 3 := by
  have ht : W.there wb (3 + who * 3) 3 := fun j hj => ⟨by
    rw [h.cell]
    have : who = 0 ∨ who = 1 ∨ who = 2 := by omega
    have hj' : j = 0 ∨ j = 1 ∨ j = 2 := by omega
    rcases this with rfl | rfl | rfl <;> rcases hj' with rfl | rfl | rfl <;> rfl, h.frozen _⟩
  have hc : Chg wb W (W.setCells wb (3 + who * 3) (bC b).toList) := ((chg_set W wb (3 + who * 3) (.int .i64 b.n)).trans (chg_set _ wb (3 + who * 3 + 1) (.int .i64 b.nd))).trans (chg_set _ wb (3 + who * 3 + 1 + 1) (.int .i64 b.lf))
  have hB := ((h.set (3 + who * 3) (.int .i64 b.n)).set (3 + who * 3 + 1) (.int .i64 b.nd)).set (3 + who * 3 + 1 + 1) (.int .i64 b.lf)
  have : who = 0 ∨ who = 1 ∨ who = 2 := by omega
  rcases this with rfl | rfl | rfl
  · exact ⟨b, y, z, rfl, hB, hc, ht⟩
  · exact ⟨x, b, z, rfl, hB, hc, ht⟩
  · exact ⟨x, y, b, rfl, hB, hc, ht⟩
theorem Nw.turnW {W0 W W' : World} {B wb : Nat} {P : NwP} {S : Net} (h : Nw W0 W B wb P S) (hc : Chg wb W W') {x y z : Bt} (hB : Blk W' wb (nwC S.n P.gr P.rv P.cv x y z P.lv) 43) : Nw W0 W' B wb P { S with la := [x, y, z] } := by
  obtain ⟨k1, k2, k3, k4, k5⟩ := h.kinds
  have hf : Frm (fun j => j = wb) W W' := frm_chg hc rfl
  have hN : NoI (fun j => j = wb) W := fun j hj hk => by subst hj; have := hk.uniq k1; cases this
  refine ⟨h.gew, h.ger, ⟨x, y, z, rfl, hB⟩, h.reg.frm hf (fun e => by have := (e ▸ k2).uniq k1; cases this), h.rgs, h.rgl, fun r hr => (h.rgi r hr).frm hf hN, own_frm h.rds hf (fun j hj e => by subst e; have := (k3 _ hj).uniq k1; cases this), h.bsl, fun i t R hi hR => ?_, h.dis, own_frm h.chs hf (fun j hj e => by subst e; have := (k4 _ hj).uniq k1; cases this), h.chr, fun c hc => ⟨(h.chi c hc).1.frm hf hN, (h.chi c hc).2.frm hf hN⟩, own_frm h.lts hf (fun j hj e => by subst e; have := (k5 _ hj).uniq k1; cases this), h.ltm, fun l hl => ⟨(h.lti l hl).1.frm hf hN, (h.lti l hl).2.frm hf hN⟩, h.old.trans (hc.below (Nat.le_trans h.le h.gew)), h.le, by rw [hc.size]; exact h.lB⟩
  obtain ⟨o1, -⟩ := h.off hi hR
  exact (h.rnd i t R hi hR).frm hf hN.g (fun e => o1 (.inl e.symm)) (fun e => o1 (.inr (.inl e.symm))) (fun e => o1 (.inr (.inr e.symm)))
/-- The rows of rounds and of changes. -/
def rwX (P : NwP) (k : Nat) : Prop := P.rv.ownBlock = some k ∨ P.cv.ownBlock = some k
/-- One round more, once it is appended and stored. -/
theorem Nw.turnN {W0 W W1 : World} {B wb : Nat} {P : NwP} {S : Net} (h : Nw W0 W B wb P S) {rv cv : Value} {t : Nat × Nat × Nat} {c : CgD} {R : Rd} (hg : Frm (rwX P) W W1) (hr : W1.ownsRow B 44 1 rv (S.rd.length + 1) (P.bs.map (fun t => rptr t.1) ++ [rptr t.1])) (hcv : W1.ownsRow B 26 3 cv (S.rd.length + 1) ((P.cds ++ [c]).flatMap encG))
    (hR : Rn (fun _ => False) W B t.1 t.2.1 t.2.2 R) (hc : cgOf c = R.c) (hi : Im W0 W B c.vo c.o ∧ Im W0 W B c.vn c.n) (hd : ∀ (i : Nat) (u : Nat × Nat × Nat), P.bs[i]? = some u → ∀ k, b3 u k → ¬ b3 t k) :
    Nw W0 ((W1.setCell ⟨wb, 1, none⟩ rv).setCell ⟨wb, 2, none⟩ cv) B wb { P with rv := rv, cv := cv, bs := P.bs ++ [t], cds := P.cds ++ [c] } { S with rd := S.rd ++ [R] } ∧ Frm (fun k => rwX P k ∨ k = wb) W ((W1.setCell ⟨wb, 1, none⟩ rv).setCell ⟨wb, 2, none⟩ cv) := by
  obtain ⟨k1, k2, k3, k4, k5⟩ := h.kinds
  obtain ⟨x, y, z, e, hBw⟩ := h.blk
  have kx : ∀ k, rwX P k → ∀ t', kindR W k t' → t' = 44 ∨ t' = 26 := by
    rintro k (hk | hk) t' ht'
    · exact .inl (ht'.uniq (k3 k hk))
    · exact .inr (ht'.uniq (k4 k hk))
  have hB1 : Blk W1 wb (nwC S.n P.gr P.rv P.cv x y z P.lv) 43 := hBw.frm hg (fun e => by rcases kx _ e _ k1 with h9 | h9 <;> cases h9)
  have hch := (chg_set W1 wb 1 rv).trans (chg_set _ wb 2 cv)
  have hf1 : Frm (fun k => k = wb) W1 ((W1.setCell ⟨wb, 1, none⟩ rv).setCell ⟨wb, 2, none⟩ cv) := frm_chg hch rfl
  have hf : Frm (fun k => rwX P k ∨ k = wb) W ((W1.setCell ⟨wb, 1, none⟩ rv).setCell ⟨wb, 2, none⟩ cv) := (hg.mono fun k hk => .inl hk).trans (hf1.mono fun k hk => .inr hk)
  have ky : ∀ k, (rwX P k ∨ k = wb) → ∀ t', kindR W k t' → t' = 44 ∨ t' = 26 ∨ t' = 43 := by
    rintro k (hk | hk) t' ht'
    · rcases kx k hk t' ht' with h9 | h9
      · exact .inl h9
      · exact .inr (.inl h9)
    · subst hk; exact .inr (.inr (ht'.uniq k1))
  have hN : NoI (fun k => rwX P k ∨ k = wb) W := fun k hk hi => by rcases ky k hk _ hi with h9 | h9 | h9 <;> cases h9
  have lo : ∀ k, (rwX P k ∨ k = wb) → B ≤ k := by
    rintro k ((hk | hk) | hk)
    · exact (h.rds.lt k hk).1
    · exact (h.chs.lt k hk).1
    · subst hk; exact h.gew
  have hoff : ∀ {G : Nat → Prop} {b mp ma : Nat} {Q : Rd}, Rn G W B b mp ma Q → ∀ k, bks b mp ma k → ¬ (rwX P k ∨ k = wb) := by
    intro G b mp ma Q hQ k hk hx
    rcases hx with (hx | hx) | hx
    · have := hQ.kinds hk (k3 k hx); cases this
    · have := hQ.kinds hk (k4 k hx); cases this
    · subst hx; have := hQ.kinds hk k1; cases this
  have hll : ({ S with rd := S.rd ++ [R] } : Net).rd.length = S.rd.length + 1 := by show (S.rd ++ [R]).length = _; rw [List.length_append]; rfl
  refine ⟨⟨h.gew, h.ger, ⟨x, y, z, e, (hB1.set 1 rv).set 2 cv⟩, h.reg.frm hf (fun e => by rcases ky _ e _ k2 with h9 | h9 | h9 <;> cases h9), h.rgs, h.rgl, fun r hr => (h.rgi r hr).frm hf hN, ?_, ?_, fun i u Q hi hQ => ?_, fun i j u v hij hi hj k hk => ?_, ?_, ?_, fun c' hc' => ?_, own_frm h.lts hf (fun k hk e => by rcases ky _ e _ (k5 k hk) with h9 | h9 | h9 <;> cases h9), h.ltm, fun l hl => ⟨(h.lti l hl).1.frm hf hN, (h.lti l hl).2.frm hf hN⟩, h.old.trans (hf.below h.old.size (fun k hk => Nat.le_trans h.le (lo k hk))), h.le, Nat.le_trans h.lB hf.size⟩, hf⟩
  · rw [hll]
    show World.ownsRow _ B 44 1 rv _ ((P.bs ++ [t]).map fun t => rptr t.1)
    rw [List.map_append]
    exact own_frm hr hf1 (fun k hk e => by subst e; have := (own_kindR hr hk).uniq hB1.kindR; cases this)
  · rw [hll]
    show (P.bs ++ [t]).length = _
    rw [List.length_append, h.bsl]
    rfl
  · by_cases ei : i < S.rd.length
    · have hi' : P.bs[i]? = some u := by have h9 : (P.bs ++ [t])[i]? = some u := hi; rw [List.getElem?_append_left (by rw [h.bsl]; exact ei)] at h9; exact h9
      have hQ' : S.rd[i]? = some Q := by have h9 : (S.rd ++ [R])[i]? = some Q := hQ; rw [List.getElem?_append_left ei] at h9; exact h9
      have hq := h.rnd i u Q hi' hQ'
      exact hq.frm hf hN.g (hoff hq _ (.inl rfl)) (hoff hq _ (.inr (.inl rfl))) (hoff hq _ (.inr (.inr rfl)))
    · have hi' : (P.bs ++ [t])[i]? = some u := hi
      have hQ' : (S.rd ++ [R])[i]? = some Q := hQ
      rw [List.getElem?_append_right (by rw [h.bsl]; omega)] at hi'
      rw [List.getElem?_append_right (by omega)] at hQ'
      have e0 : i - S.rd.length = 0 := by have := (List.getElem?_eq_some_iff.1 hQ').1; simp at this; omega
      rw [h.bsl, e0] at hi'
      rw [e0] at hQ'
      simp at hi' hQ'
      subst hi'
      subst hQ'
      exact hR.frm hf hN.g (hoff hR _ (.inl rfl)) (hoff hR _ (.inr (.inl rfl))) (hoff hR _ (.inr (.inr rfl)))
  · have hi' : (P.bs ++ [t])[i]? = some u := hi
    have hj' : (P.bs ++ [t])[j]? = some v := hj
    have key : ∀ (i : Nat) (u : Nat × Nat × Nat), (P.bs ++ [t])[i]? = some u → P.bs[i]? = some u ∨ (i = P.bs.length ∧ u = t) := by
      intro i u hi
      by_cases ei : i < P.bs.length
      · rw [List.getElem?_append_left ei] at hi; exact .inl hi
      · rw [List.getElem?_append_right (by omega)] at hi
        have e0 : i - P.bs.length = 0 := by have := (List.getElem?_eq_some_iff.1 hi).1; simp at this; omega
        rw [e0] at hi
        simp at hi
        exact .inr ⟨by omega, hi.symm⟩
    rcases key i u hi' with e1 | ⟨e1, rfl⟩ <;> rcases key j v hj' with e2 | ⟨e2, rfl⟩
    · exact h.dis i j u v hij e1 e2 k hk
    · exact hd i u e1 k hk
    · exact fun h9 => hd j v e2 k h9 hk
    · omega
  · rw [hll]
    exact own_frm hcv hf1 (fun k hk e => by subst e; have := (own_kindR hcv hk).uniq hB1.kindR; cases this)
  · show (P.cds ++ [c]).map cgOf = (S.rd ++ [R]).map (fun R => R.c)
    rw [List.map_append, List.map_append, h.chr]
    simp [hc]
  · rcases List.mem_append.1 hc' with e1 | e1
    · exact ⟨(h.chi c' e1).1.frm hf hN, (h.chi c' e1).2.frm hf hN⟩
    · have : c' = c := by simpa using e1
      subst this
      exact ⟨hi.1.frm hf hN, hi.2.frm hf hN⟩
theorem infoPt : (Try.prog.info? 44).map (fun i => (i.zero, i.size, i.bytes)) = some (some (.pointer none), 1, 8) := by kernel_rfl
theorem infoCh : (Try.prog.info? 26).map (fun i => (i.zero, i.size, i.bytes)) = some (some (cgV 0 (.slice none 0 0) (.slice none 0 0)), 3, 56) := by kernel_rfl
theorem bsPt1 (b : Nat) (w : World) : (Instr.buildSlice 38 1 #[(0, rptr b)]).run Try.prog w = .ok (.slice (some ⟨w.heap.size, 0, none⟩) 1 1) (w.alloc (.cells #[rptr b] 44)) := by kernel_rfl
theorem bsCh1 (k : Int) (q1 q2 : Option Addr) (n1 n2 c1 c2 : Nat) (w : World) : (Instr.buildSlice 39 1 #[(0, cgV k (.slice q1 n1 c1) (.slice q2 n2 c2))]).run Try.prog w = .ok (.slice (some ⟨w.heap.size, 0, none⟩) 1 1) (w.alloc (.cells (cgC k (.slice q1 n1 c1) (.slice q2 n2 c2)) 26)) := by kernel_rfl
section
variable {o : Oper} {a : Act} {w : World} {K : Act → World → Prop} {Q : Exit → Act → World → Prop}
theorem bsPtW (d : Option Tmp) (hd : o.dst = d) {parts : Array (Nat × Operand)} (ho : o.op = .buildSlice 38 1 parts) (b : Nat) (hl : parts.map (fun (i, x) => (i, a.eval x)) = #[(0, rptr b)])
    (h : ∀ W', Blk W' w.heap.size #[rptr b] 44 → Below w.heap.size w W' → K (a.put d (.slice (some ⟨w.heap.size, 0, none⟩) 1 1)) W') : o.wp Try.prog a w K Q := by
  subst hd
  unfold Oper.wp execOp
  simp only [ho, Sem.run_bind, hl, bsPt1, Result.andThen_ok]
  exact h _ (Blk.new _ _ _) ((Below.refl _ _).alloc (Nat.le_refl _) _)
theorem bsChW (d : Option Tmp) (hd : o.dst = d) {parts : Array (Nat × Operand)} (ho : o.op = .buildSlice 39 1 parts) (k : Int) (q1 q2 : Option Addr) (n1 n2 c1 c2 : Nat) (hl : parts.map (fun (i, x) => (i, a.eval x)) = #[(0, cgV k (.slice q1 n1 c1) (.slice q2 n2 c2))])
    (h : ∀ W', Blk W' w.heap.size (cgC k (.slice q1 n1 c1) (.slice q2 n2 c2)) 26 → Below w.heap.size w W' → K (a.put d (.slice (some ⟨w.heap.size, 0, none⟩) 1 1)) W') : o.wp Try.prog a w K Q := by
  subst hd
  unfold Oper.wp execOp
  simp only [ho, Sem.run_bind, hl, bsCh1, Result.andThen_ok]
  exact h _ (Blk.new _ _ _) ((Below.refl _ _).alloc (Nat.le_refl _) _)
theorem appPt1 (d : Option Tmp) (hd : o.dst = d) {s x : Operand} (ho : o.op = .call { callee := .builtin .append, args := #[s, x], argTypes := #[38, 38] })
    {v : Value} {N B g b : Nat} {xs : List Value} (hs : a.eval s = v) (hown : w.ownsRow B 44 1 v N xs) (hx : a.eval x = .slice (some ⟨g, 0, none⟩) 1 1) (hB : Blk w g #[rptr b] 44) (hk : N ≤ 4000) (hBw : B ≤ w.heap.size)
    (h : ∀ v' w', w'.ownsRow B 44 1 v' (N + 1) (xs ++ [rptr b]) → w.grownBy w' v.ownBlock → (v'.ownBlock = v.ownBlock ∨ v'.ownBlock = some w.heap.size) → K (a.put d v') w') : o.wp Try.prog a w K Q := by
  subst hd
  obtain ⟨i, hi, hz0, hz1, hz2⟩ := info_parts infoPt
  obtain ⟨v', w', hr, h2, h3, h4, h5⟩ := run_append_own_at (P := Try.prog) w B 38 o.type 44 i _ 1 8 Try.underlying38 hi hz0 hz1 hz2 rfl (by omega) v N xs hown ⟨g, 0, none⟩ 1 1 [rptr b] rfl (fun j u hu => by
    have := hB.at (i := j) (by simpa using hu)
    rw [add_plain _ rfl]
    simpa using this) (fun u hu => by have : u = rptr b := by simpa using hu
                                      subst this; rfl) (by unfold maxLen; omega) (by omega) hBw
  unfold Oper.wp execOp
  simp only [ho, resolve, invoke, builtin, Sem.run_bind, Sem.run_pure, Result.andThen_ok, List.map_toArray, List.map_cons, List.map_nil, hs, hx, hr]
  exact h v' w' h2 h3 h5
theorem appCh1 (d : Option Tmp) (hd : o.dst = d) {s x : Operand} (ho : o.op = .call { callee := .builtin .append, args := #[s, x], argTypes := #[39, 39] })
    {v : Value} {N B g : Nat} {cds : List CgD} {k : Int} {q1 q2 : Option Addr} {n1 n2 c1 c2 : Nat} (lo ln : List Int) (hs : a.eval s = v) (hown : w.ownsRow B 26 3 v N (cds.flatMap encG)) (hx : a.eval x = .slice (some ⟨g, 0, none⟩) 1 1) (hB : Blk w g (cgC k (.slice q1 n1 c1) (.slice q2 n2 c2)) 26) (hk : N ≤ 4000) (hBw : B ≤ w.heap.size)
    (h : ∀ v' w', w'.ownsRow B 26 3 v' (N + 1) ((cds ++ [(⟨k, .slice q1 n1 c1, lo, .slice q2 n2 c2, ln⟩ : CgD)]).flatMap encG) → w.grownBy w' v.ownBlock → (v'.ownBlock = v.ownBlock ∨ v'.ownBlock = some w.heap.size) → K (a.put d v') w') : o.wp Try.prog a w K Q := by
  subst hd
  obtain ⟨i, hi, hz0, hz1, hz2⟩ := info_parts infoCh
  obtain ⟨v', w', hr, h2, h3, h4, h5⟩ := run_append_own_at (P := Try.prog) w B 39 o.type 26 i _ 3 56 Try.underlying39 hi hz0 hz1 hz2 rfl (by omega) v N (cds.flatMap encG) hown ⟨g, 0, none⟩ 1 1 (cgC k (.slice q1 n1 c1) (.slice q2 n2 c2)).toList rfl (fun j u hu => by
    have := hB.at (i := j) (by simpa using hu)
    rw [add_plain _ rfl]
    simpa using this) (fun u hu => by simp at hu; rcases hu with rfl | rfl | rfl <;> rfl) (by unfold maxLen; omega) (by omega) hBw
  unfold Oper.wp execOp
  simp only [ho, resolve, invoke, builtin, Sem.run_bind, Sem.run_pure, Result.andThen_ok, List.map_toArray, List.map_cons, List.map_nil, hs, hx, hr]
  refine h v' w' ?_ h3 h5
  rw [List.flatMap_append, List.flatMap_cons, List.flatMap_nil, List.append_nil]
  exact h2
end
end Go.Proofs.Ytodmhohccclhmaa
