/-
  The document's Refused and Accepted.
  The document's Accepted and Promise.
-/
import Derived.Test.YtodmhohccclhmaaPk20
namespace Go.Proofs.Ytodmhohccclhmaa
open Go.RowKit
set_option linter.unusedVariables false
set_option maxRecDepth 100000

theorem neBt (x y : Bt) (w : World) : (binOp .neq 23 (bV x) (bV y)).run Try.prog w = .ok (.bool (!eqB x y)) w := by
  have h : eqB x y = (decide (x.n = y.n) && (decide (x.nd = y.nd) && decide (x.lf = y.lf))) := by unfold eqB; rw [Bool.eq_iff_iff]; simp
  rw [h]
  by_cases h1 : x.n = y.n
  · by_cases h2 : x.nd = y.nd
    · by_cases h3 : x.lf = y.lf
      · simp [go_sem, h1, h2, h3]
      · simp [go_sem, h1, h2, h3]
    · simp [go_sem, h1, h2]
  · simp [go_sem, h1]
theorem hear_yes {R : Rd} {k : Int} {x : Bt} (h1 : eqB x R.b = true) (h2 : 0 ≤ k) (h3 : k < (R.n : Int)) : hearB R k x = true := by unfold hearB; rw [h1, decide_eq_true h2, decide_eq_true h3]; rfl
/-- What the document's round answers and leaves. -/
def DrE (W0 W W' : World) (B d g1 g2 g3 : Nat) (R' : Rd) (x : Bool) (e : Ending) : Prop := e = .returned (.bool x) ∧ Drn W0 W' B d g1 g2 g3 R' ∧ Frm (bkr d g1 g2 g3) W W'
theorem dre_no {W0 W W' : World} {B d g1 g2 g3 : Nat} {R R' : Rd} {x : Bool} (h : Drn W0 W B d g1 g2 g3 R) (hb : Below W.heap.size W W') (hx : x = false) (hR : R' = R) : DrE W0 W W' B d g1 g2 g3 R' x (.returned (.bool false)) := by
  subst hx
  subst hR
  exact ⟨rfl, h.keep hb, frm_below hb⟩
theorem rf_deaf {R : Rd} {k : Int} {x g : Bt} (h : hearB R k x = false) : rfB R k x g = false := by unfold rfB; rw [h]; rfl
theorem acK_deaf {R : Rd} {k : Int} {x : Bt} (h : hearB R k x = false) : acK R k x = false := by unfold acK; rw [h]; rfl
theorem pmK_deaf {R : Rd} {k : Int} {x : Bt} (h : hearB R k x = false) : pmK R k x = false := by unfold pmK; rw [h]; rfl
theorem Drn.ned {W0 W : World} {B d g1 g2 g3 : Nat} {R : Rd} (h : Drn W0 W B d g1 g2 g3 R) : g1 ≠ d ∧ g2 ≠ d ∧ g3 ≠ d ∧ g2 ≠ g1 ∧ g2 ≠ g3 := by
  obtain ⟨vo, vn, vv, hB, -⟩ := h.mem
  obtain ⟨os, ho, -⟩ := h.reg
  exact ⟨blk_ne h.has hB (by decide), blk_ne ho hB (by decide), blk_ne h.did hB (by decide), blk_ne ho h.has (by decide), blk_ne ho h.did (by decide)⟩
/-- The struct of the document's round turns. -/
theorem Drn.turn {W0 W W' : World} {B d g1 g2 g3 : Nat} {R R' : Rd} (h : Drn W0 W B d g1 g2 g3 R) (hc : Chg d W W') {vo vn vv : Value} (hB : Blk W' d (rfC R' vo vn vv g1 g2 g3) 92) (i1 : Is W0 vo R'.c.o) (i2 : Is W0 vn R'.c.n) (i3 : Is W0 vv R'.v) (hp : R'.pr = R.pr) (ha : R'.ac = R.ac) (hok : RdOK R') (hs : 1 ≤ R'.st) : Drn W0 W' B d g1 g2 g3 R' ∧ Frm (bkr d g1 g2 g3) W W' := by
  obtain ⟨n1, n2, n3, -, -⟩ := h.ned
  obtain ⟨os, ho, hr, hl⟩ := h.reg
  refine ⟨⟨h.ged, h.ge1, h.ge2, h.ge3, h.ne, ⟨vo, vn, vv, hB, i1, i2, i3⟩, by rw [hp]; exact h.has.chg hc n1, ⟨os, ho.chg hc n2, by rw [hp]; exact hr, hl⟩, by rw [ha]; exact h.did.chg hc n3, hok, h.old.trans (hc.below (Nat.le_trans h.le h.ged)), h.le, hs⟩, frm_chg hc (.inl rfl)⟩
set_option maxHeartbeats 2000000 in
theorem rrefused_any (W0 : World) (B d g1 g2 g3 : Nat) (R : Rd) (k : Int) (x g : Bt) (w : World) (h : Drn W0 w B d g1 g2 g3 R) :
    Calls Try.prog 28 #[dptr d, .int .i64 k, bV x, bV g] w fun e w' => DrE W0 w w' B d g1 g2 g3 (rfS R k x g) (rfB R k x g) e := by
  go_enter Try.func28, Try.ntmps28
  go_upto_region 1 with fail
  obtain ⟨A, hAe, hX, hY, hw⟩ := blk2 w (bC x) (bC g) 23 23
  rw [hAe]
  clear hAe
  have hA := h.keep hw
  obtain ⟨vo, vn, vv, hB, -⟩ := hA.mem
  have e0 : ∀ y : Cls A, y.val.cell? ⟨d, 0, none⟩ = some (.int .i64 (R.n : Int)) := cls_cell (hB.at (i := 0) rfl) hB.lt
  have e1 : ∀ y : Cls A, y.val.cell? ⟨d, 1, none⟩ = some (.int .i64 R.b.n) := cls_cell (hB.at (i := 1) rfl) hB.lt
  have e2 : ∀ y : Cls A, y.val.cell? ⟨d, 2, none⟩ = some (.int .i64 R.b.nd) := cls_cell (hB.at (i := 2) rfl) hB.lt
  have e3 : ∀ y : Cls A, y.val.cell? ⟨d, 3, none⟩ = some (.int .i64 R.b.lf) := cls_cell (hB.at (i := 3) rfl) hB.lt
  have e7 : ∀ y : Cls A, y.val.cell? ⟨d, 7, none⟩ = some (.int .i64 (R.st : Int)) := cls_cell (hB.at (i := 7) rfl) hB.lt
  have x0 : ∀ y : Cls A, y.val.cell? ⟨w.heap.size, 0, none⟩ = some (.int .i64 x.n) := cls_cell (hX.at (i := 0) rfl) hX.lt
  have x1 : ∀ y : Cls A, y.val.cell? ⟨w.heap.size, 1, none⟩ = some (.int .i64 x.nd) := cls_cell (hX.at (i := 1) rfl) hX.lt
  have x2 : ∀ y : Cls A, y.val.cell? ⟨w.heap.size, 2, none⟩ = some (.int .i64 x.lf) := cls_cell (hX.at (i := 2) rfl) hX.lt
  have y0 : ∀ y : Cls A, y.val.cell? ⟨w.heap.size + 1, 0, none⟩ = some (.int .i64 g.n) := cls_cell (hY.at (i := 0) rfl) hY.lt
  have y1 : ∀ y : Cls A, y.val.cell? ⟨w.heap.size + 1, 1, none⟩ = some (.int .i64 g.nd) := cls_cell (hY.at (i := 1) rfl) hY.lt
  have y2 : ∀ y : Cls A, y.val.cell? ⟨w.heap.size + 1, 2, none⟩ = some (.int .i64 g.lf) := cls_cell (hY.at (i := 2) rfl) hY.lt
  have HZ := cls_some A
  have HE : ∀ w, _ := neBt x R.b
  clear hB
  refine wp_region_below (by kernel_rfl) (by kernel_rfl) ?_
  by_cases k1 : 0 ≤ k
  · have i1 : ¬ k < 0 := by omega
    by_cases k2 : k < (R.n : Int)
    · have i2 : ¬ (R.n : Int) ≤ k := by omega
      cases h1 : eqB x R.b
      · rw [h1] at HE
        have HH : Hid (hearB R k x = false) := by show _ = _; unfold hearB; rw [h1]; rfl
        clear h1
        repeat (go_big_quiet_step (fail))
        refine wpQuiet_nil ?_
        rintro _ ⟨y, rfl⟩
        obtain ⟨W2, hb⟩ := y
        dsimp only
        clear e0 e1 e2 e3 e7 x0 x1 x2 y0 y1 y2 HZ HE
        go_wp2_with fail
        go_ret
        exact dre_no h (ab_trans hw hb) (rf_deaf HH.out) (rf_no (rf_deaf HH.out))
      · rw [h1] at HE
        have HH : Hid (hearB R k x = true) := hear_yes h1 k1 k2
        clear h1
        have s1 := h.s1
        by_cases h2 : R.st ≤ 2
        · have j1 : ¬ 2 < (R.st : Int) := by omega
          have j2 : ¬ 2 < R.st := by omega
          have HN : Hid (rfB R k x g = lt3 R.b g) := by
            show _ = _
            unfold rfB
            rw [HH.out]
            have : R.st = 1 ∨ R.st = 2 := by omega
            rcases this with e | e <;> rw [e] <;> simp
          clear h2
          repeat (go_big_quiet_step (first
            | (go_at_call 14; exact calls_below (rbless_any R.b g _))))
          refine wpQuiet_nil ?_
          rintro _ ⟨y, rfl⟩
          obtain ⟨W2, hb⟩ := y
          dsimp only
          clear e0 e1 e2 e3 e7 x0 x1 x2 y0 y1 y2 HZ HE
          have hR2 := hA.keep hb
          have hw2 := ab_trans hw hb
          have hY2 := hY.keep hb
          obtain ⟨u0, u1, u2⟩ := cells3 hY2
          have hbv := Below.refl W2.heap.size W2
          cases h3 : lt3 R.b g
          · rw [h3] at HN
            go_wp2_with fail
            go_ret
            exact dre_no h hw2 HN.out (rf_no HN.out)
          · rw [h3] at HN
            obtain ⟨vo, vn, vv, hB2, I1, I2, I3⟩ := hR2.mem
            have d12 : W2.cell? ⟨d, 13, none⟩ = some (.int .i64 R.mt.n) := hB2.at (i := 13) rfl
            have d13 : W2.cell? ⟨d, 14, none⟩ = some (.int .i64 R.mt.nd) := hB2.at (i := 14) rfl
            have d14 : W2.cell? ⟨d, 15, none⟩ = some (.int .i64 R.mt.lf) := hB2.at (i := 15) rfl
            have d7 : W2.cell? ⟨d, 7, none⟩ = some (.int .i64 (R.st : Int)) := hB2.at (i := 7) rfl
            have f12 := hB2.frozen 13
            have f13 := hB2.frozen 14
            have f14 := hB2.frozen 15
            have f7 := hB2.frozen 7
            go_wp2_with fail
            go_ret
            rw [rf_yes HN.out, HN.out]
            have C5 := ((((chg_set W2 d 13 (.int .i64 g.n)).trans (chg_set _ d 14 (.int .i64 g.nd))).trans (chg_set _ d 15 (.int .i64 g.lf))).trans (chg_set _ d 7 (.int .i64 4)))
            obtain ⟨hR5, F5⟩ := hR2.turn (R' := { R with st := 4, mt := g }) C5 ((((hB2.set 13 _).set 14 _).set 15 _).set 7 _) I1 I2 I3 rfl rfl (hR2.ok.lost 4 g) (by show 1 ≤ 4; omega)
            exact ⟨rfl, hR5, (frm_below hw2).trans F5⟩
        · have j1 : 2 < (R.st : Int) := by omega
          have j2 : 2 < R.st := by omega
          have HN : Hid (rfB R k x g = false) := by
            show _ = _
            unfold rfB
            rw [decide_eq_false (show ¬ R.st = 1 by omega), decide_eq_false (show ¬ R.st = 2 by omega)]
            simp
          repeat (go_big_quiet_step (fail))
          refine wpQuiet_nil ?_
          rintro _ ⟨y, rfl⟩
          obtain ⟨W2, hb⟩ := y
          dsimp only
          clear e0 e1 e2 e3 e7 x0 x1 x2 y0 y1 y2 HZ HE
          go_wp2_with fail
          go_ret
          exact dre_no h (ab_trans hw hb) HN.out (rf_no HN.out)
    · have i2 : (R.n : Int) ≤ k := by omega
      have HH : Hid (hearB R k x = false) := by show _ = _; unfold hearB; rw [decide_eq_false k2]; simp
      repeat (go_big_quiet_step (fail))
      refine wpQuiet_nil ?_
      rintro _ ⟨y, rfl⟩
      obtain ⟨W2, hb⟩ := y
      dsimp only
      clear e0 e1 e2 e3 e7 x0 x1 x2 y0 y1 y2 HZ HE
      go_wp2_with fail
      go_ret
      exact dre_no h (ab_trans hw hb) (rf_deaf HH.out) (rf_no (rf_deaf HH.out))
  · have i1 : k < 0 := by omega
    have HH : Hid (hearB R k x = false) := by show _ = _; unfold hearB; rw [decide_eq_false k1]; simp
    repeat (go_big_quiet_step (fail))
    refine wpQuiet_nil ?_
    rintro _ ⟨y, rfl⟩
    obtain ⟨W2, hb⟩ := y
    dsimp only
    clear e0 e1 e2 e3 e7 x0 x1 x2 y0 y1 y2 HZ HE
    go_wp2_with fail
    go_ret
    exact dre_no h (ab_trans hw hb) (rf_deaf HH.out) (rf_no (rf_deaf HH.out))
end Go.Proofs.Ytodmhohccclhmaa
namespace Go.Proofs.Ytodmhohccclhmaa
open Go.RowKit
set_option linter.unusedVariables false
set_option maxRecDepth 100000

theorem set_mid (t : TypeId) : ∀ (vs : List Value) (W : World) (g : Nat) (A B C : List Value), Blk W g (A ++ B ++ C).toArray t → B.length = vs.length → Blk (W.setCells g A.length vs) g (A ++ vs ++ C).toArray t ∧ Chg g W (W.setCells g A.length vs)
  | [], W, g, A, B, C, h, hl => by
    have : B = [] := List.eq_nil_of_length_eq_zero hl
    subst this
    exact ⟨h, Chg.refl _ _⟩
  | v :: vs, W, g, A, [], C, h, hl => by simp at hl
  | v :: vs, W, g, A, b :: B, C, h, hl => by
    have h1 := h.set A.length v
    have e : (A ++ (b :: B) ++ C).toArray.setIfInBounds A.length v = ((A ++ [v]) ++ B ++ C).toArray := by
      apply Array.ext'
      simp
    rw [e] at h1
    obtain ⟨h2, h3⟩ := set_mid t vs _ g (A ++ [v]) B C h1 (by simpa using hl)
    have e2 : (A ++ [v]).length = A.length + 1 := by simp
    rw [e2] at h2 h3
    refine ⟨?_, (chg_set W g A.length v).trans h3⟩
    have e3 : A ++ [v] ++ vs ++ C = A ++ (v :: vs) ++ C := by simp
    rw [e3] at h2
    exact h2
theorem flR_cut {os : List RrD} {m : Nat} {r : RrD} (h : os[m]? = some r) : flR os = flR (os.take m) ++ (rC r.p r.a r.v).toList ++ flR (os.drop (m + 1)) := by
  have hm : m < os.length := (List.getElem?_eq_some_iff.1 h).1
  have e : os = os.take m ++ r :: os.drop (m + 1) := by
    have := List.take_append_drop m os
    rw [← this]
    rw [List.getElem?_eq_getElem hm] at h
    cases h
    simp
  conv => lhs; rw [e]
  rw [flR_append, flR_cons, List.append_assoc]
theorem rg_stored {W : World} {g m : Nat} {os : List RrD} {t : TypeId} (h : Blk W g (flR os).toArray t) (hm : m < os.length) (r : RrD) :
    Blk (W.setCells g (m * 7) (rC r.p r.a r.v).toList) g (flR (os.set m r)).toArray t ∧ Chg g W (W.setCells g (m * 7) (rC r.p r.a r.v).toList) ∧ W.there g (m * 7) 7 := by
  have h0 : os[m]? = some os[m] := List.getElem?_eq_getElem hm
  have hl : (flR (os.take m)).length = m * 7 := by rw [flR_len, List.length_take]; congr 1; omega
  have hB := h
  rw [flR_cut h0] at hB
  obtain ⟨h1, h2⟩ := set_mid t (rC r.p r.a r.v).toList W g _ _ _ hB rfl
  rw [hl] at h1 h2
  have e : flR (os.set m r) = flR (os.take m) ++ (rC r.p r.a r.v).toList ++ flR (os.drop (m + 1)) := by
    have h3 : (os.set m r)[m]? = some r := by rw [List.getElem?_set_self hm]
    rw [flR_cut h3, List.take_set_of_le (Nat.le_refl _), List.drop_set_of_lt (by omega)]
  rw [e]
  refine ⟨h1, h2, fun j hj => ⟨?_, h.frozen _⟩⟩
  rw [h.cell]
  have hz : m * 7 + j < (flR os).length := by rw [flR_len]; omega
  rw [List.getElem?_toArray, List.getElem?_eq_getElem hz]
  rfl
/-- Who accepted turns. -/
theorem Drn.dids {W0 W W' : World} {B d g1 g2 g3 : Nat} {R : Rd} (h : Drn W0 W B d g1 g2 g3 R) {j : Nat} (hc : Chg g3 W W') (hB : Blk W' g3 (bls (acP R (j : Int))) 4) : Drn W0 W' B d g1 g2 g3 { R with ac := acP R (j : Int) } := by
  obtain ⟨n1, n2, n3, n4, n5⟩ := h.ned
  obtain ⟨vo, vn, vv, hB0, i1, i2, i3⟩ := h.mem
  obtain ⟨os, ho, hr, hl⟩ := h.reg
  exact ⟨h.ged, h.ge1, h.ge2, h.ge3, h.ne, ⟨vo, vn, vv, hB0.chg hc (fun e => n3 e.symm), i1, i2, i3⟩, h.has.chg hc h.ne, ⟨os, ho.chg hc n5, hr, hl⟩, hB, h.ok.acc _ R.st, h.old.trans (hc.below (Nat.le_trans h.le h.ge3)), h.le, h.s1⟩
set_option maxHeartbeats 2000000 in
theorem raccepted_any (W0 : World) (B d g1 g2 g3 : Nat) (R : Rd) (k : Int) (x : Bt) (w : World) (h : Drn W0 w B d g1 g2 g3 R) :
    Calls Try.prog 27 #[dptr d, .int .i64 k, bV x] w fun e w' => DrE W0 w w' B d g1 g2 g3 (acS R k x) (acB R k x) e := by
  go_enter Try.func27, Try.ntmps27
  go_upto_region 1 with fail
  obtain ⟨A, hAe, hX, hw⟩ := blk1 w (bC x) 23
  rw [hAe]
  clear hAe
  have hA := h.keep hw
  obtain ⟨vo, vn, vv, hB, -⟩ := hA.mem
  have e0 : ∀ y : Cls A, y.val.cell? ⟨d, 0, none⟩ = some (.int .i64 (R.n : Int)) := cls_cell (hB.at (i := 0) rfl) hB.lt
  have e1 : ∀ y : Cls A, y.val.cell? ⟨d, 1, none⟩ = some (.int .i64 R.b.n) := cls_cell (hB.at (i := 1) rfl) hB.lt
  have e2 : ∀ y : Cls A, y.val.cell? ⟨d, 2, none⟩ = some (.int .i64 R.b.nd) := cls_cell (hB.at (i := 2) rfl) hB.lt
  have e3 : ∀ y : Cls A, y.val.cell? ⟨d, 3, none⟩ = some (.int .i64 R.b.lf) := cls_cell (hB.at (i := 3) rfl) hB.lt
  have e7 : ∀ y : Cls A, y.val.cell? ⟨d, 7, none⟩ = some (.int .i64 (R.st : Int)) := cls_cell (hB.at (i := 7) rfl) hB.lt
  have x0 : ∀ y : Cls A, y.val.cell? ⟨w.heap.size, 0, none⟩ = some (.int .i64 x.n) := cls_cell (hX.at (i := 0) rfl) hX.lt
  have x1 : ∀ y : Cls A, y.val.cell? ⟨w.heap.size, 1, none⟩ = some (.int .i64 x.nd) := cls_cell (hX.at (i := 1) rfl) hX.lt
  have x2 : ∀ y : Cls A, y.val.cell? ⟨w.heap.size, 2, none⟩ = some (.int .i64 x.lf) := cls_cell (hX.at (i := 2) rfl) hX.lt
  have HZ := cls_some A
  have HE : ∀ w, _ := neBt x R.b
  clear hB
  refine wp_region_below (by kernel_rfl) (by kernel_rfl) ?_
  by_cases k1 : 0 ≤ k
  · have i1 : ¬ k < 0 := by omega
    by_cases k2 : k < (R.n : Int)
    · have i2 : ¬ (R.n : Int) ≤ k := by omega
      cases h1 : eqB x R.b
      · rw [h1] at HE
        have HH : Hid (hearB R k x = false) := by show _ = _; unfold hearB; rw [h1]; rfl
        clear h1
        repeat (go_big_quiet_step (fail))
        refine wpQuiet_nil ?_
        rintro _ ⟨y, rfl⟩
        obtain ⟨W2, hb⟩ := y
        dsimp only
        clear e0 e1 e2 e3 e7 x0 x1 x2 HZ HE
        go_wp2_with fail
        go_ret
        exact dre_no h (ab_trans hw hb) (ac_no (acK_deaf HH.out)).1 (ac_no (acK_deaf HH.out)).2
      · rw [h1] at HE
        have HH : Hid (hearB R k x = true) := hear_yes h1 k1 k2
        clear h1
        by_cases h2 : R.st = 2
        · have j1 : ((R.st : Int) != 2) = false := by rw [h2]; rfl
          have HK : Hid (acK R k x = true) := by show _ = _; unfold acK; rw [HH.out, h2]; rfl
          clear h2
          repeat (go_big_quiet_step (fail))
          refine wpQuiet_nil ?_
          rintro _ ⟨y, rfl⟩
          obtain ⟨W2, hb⟩ := y
          dsimp only
          clear e0 e1 e2 e3 e7 x0 x1 x2 HZ HE
          have hR2 := hA.keep hb
          have hw2 := ab_trans hw hb
          obtain ⟨j, rfl⟩ : ∃ j : Nat, k = (j : Int) := ⟨k.toNat, by omega⟩
          have hjn : j < R.n := by omega
          have hok := h.ok
          have hal := hok.al
          have h5 := hok.n5
          obtain ⟨vo, vn, vv, hB2, I1, I2, I3⟩ := hR2.mem
          have d10 : W2.cell? ⟨d, 10, none⟩ = some (.slice (some ⟨g3, 0, none⟩) R.n R.n) := hB2.at (i := 10) rfl
          have hD := hR2.did
          obtain ⟨y, hy⟩ : ∃ y, R.ac[j]? = some y := ⟨R.ac[j]'(by omega), List.getElem?_eq_getElem _⟩
          have z1 : W2.cell? ⟨g3, j, none⟩ = some (.bool y) := hD.at (bls_at hy)
          have f1 := hD.frozen j
          clear hB2
          go_upto_region 4 with fail
          have hD3 : Blk (W2.setCell ⟨g3, j, none⟩ (.bool true)) g3 (bls (acP R (j : Int))) 4 := by
            have := hD.set j (.bool true)
            rw [bls_set] at this
            unfold acP
            rw [Int.toNat_natCast]
            exact this
          have C3 := chg_set W2 g3 j (.bool true)
          generalize W2.setCell ⟨g3, j, none⟩ (.bool true) = W3 at hD3 C3 ⊢
          have hR3 := hR2.dids C3 hD3
          have hF3 : Frm (bkr d g1 g2 g3) w W3 := (frm_below hw2).trans (frm_chg C3 (.inr (.inr (.inr rfl))))
          have hal2 : (acP R (j : Int)).length = R.n := by unfold acP; rw [List.length_set]; exact hal
          have hcl := cntB_le (acP R (j : Int))
          obtain ⟨vo3, vn3, vv3, hB3, J1, J2, J3⟩ := hR3.mem
          have HC : Hid (∀ y : Cls W3, Calls Try.prog 40 #[.slice (some ⟨g3, 0, none⟩) R.n R.n] y.val fun e w' => e = .returned (.int .i64 ((cntB (acP R (j : Int)) : Nat) : Int)) ∧ Below y.val.heap.size y.val w') := fun y => count_any g3 R.n _ y.val (hD3.keep y.prop) hal2 (by omega)
          generalize hN : cntB (acP R (j : Int)) = N at HC hcl
          have e0 : ∀ y : Cls W3, y.val.cell? ⟨d, 0, none⟩ = some (.int .i64 (R.n : Int)) := cls_cell (hB3.at (i := 0) rfl) hB3.lt
          have e10 : ∀ y : Cls W3, y.val.cell? ⟨d, 10, none⟩ = some (.slice (some ⟨g3, 0, none⟩) R.n R.n) := cls_cell (hB3.at (i := 10) rfl) hB3.lt
          have HZ := cls_some W3
          refine wp_region_below (by kernel_rfl) (by kernel_rfl) ?_
          repeat (go_big_quiet_step (first
            | (go_at_call 40; exact calls_below (HC.out _))))
          refine wpQuiet_nil ?_
          rintro _ ⟨y, rfl⟩
          obtain ⟨W4, b4⟩ := y
          dsimp only
          clear e0 e10 HC HZ d10 z1 f1
          have hR4 := hR3.keep b4
          have hF4 : Frm (bkr d g1 g2 g3) w W4 := hF3.trans (frm_below b4)
          have hB4 := hB3.keep b4
          by_cases h3 : R.n < 2 * N
          · have HN : Hid (acB R (j : Int) x = true ∧ acS R (j : Int) x = { R with ac := acP R (j : Int), st := 3 }) := ac_all HK.out (by rw [hN]; exact h3)
            have t1 : ¬ 2 * N ≤ R.n := by omega
            have t2 : ¬ (2 * (N : Int) ≤ (R.n : Int)) := by omega
            have d7 : W4.cell? ⟨d, 7, none⟩ = some (.int .i64 (R.st : Int)) := hB4.at (i := 7) rfl
            have f7 := hB4.frozen 7
            go_wp2_with fail
            go_ret
            rw [HN.out.1, HN.out.2]
            obtain ⟨hR5, F5⟩ := hR4.turn (R' := { R with ac := acP R (j : Int), st := 3 }) (chg_set W4 d 7 (.int .i64 3)) (hB4.set 7 _) J1 J2 J3 rfl rfl (hok.acc _ 3) (by show 1 ≤ 3; omega)
            exact ⟨rfl, hR5, hF4.trans F5⟩
          · have HN : Hid (acB R (j : Int) x = false ∧ acS R (j : Int) x = { R with ac := acP R (j : Int) }) := ac_few HK.out (by rw [hN]; exact h3)
            have t1 : 2 * N ≤ R.n := by omega
            have t2 : 2 * (N : Int) ≤ (R.n : Int) := by omega
            go_wp2_with fail
            go_ret
            rw [HN.out.1, HN.out.2]
            exact ⟨rfl, hR4, hF4⟩
        · have j1 : ((R.st : Int) != 2) = true := by simp; omega
          have HK : Hid (acK R k x = false) := by show _ = _; unfold acK; rw [decide_eq_false h2]; simp
          repeat (go_big_quiet_step (fail))
          refine wpQuiet_nil ?_
          rintro _ ⟨y, rfl⟩
          obtain ⟨W2, hb⟩ := y
          dsimp only
          clear e0 e1 e2 e3 e7 x0 x1 x2 HZ HE
          go_wp2_with fail
          go_ret
          exact dre_no h (ab_trans hw hb) (ac_no HK.out).1 (ac_no HK.out).2
    · have i2 : (R.n : Int) ≤ k := by omega
      have HH : Hid (hearB R k x = false) := by show _ = _; unfold hearB; rw [decide_eq_false k2]; simp
      repeat (go_big_quiet_step (fail))
      refine wpQuiet_nil ?_
      rintro _ ⟨y, rfl⟩
      obtain ⟨W2, hb⟩ := y
      dsimp only
      clear e0 e1 e2 e3 e7 x0 x1 x2 HZ HE
      go_wp2_with fail
      go_ret
      exact dre_no h (ab_trans hw hb) (ac_no (acK_deaf HH.out)).1 (ac_no (acK_deaf HH.out)).2
  · have i1 : k < 0 := by omega
    have HH : Hid (hearB R k x = false) := by show _ = _; unfold hearB; rw [decide_eq_false k1]; simp
    repeat (go_big_quiet_step (fail))
    refine wpQuiet_nil ?_
    rintro _ ⟨y, rfl⟩
    obtain ⟨W2, hb⟩ := y
    dsimp only
    clear e0 e1 e2 e3 e7 x0 x1 x2 HZ HE
    go_wp2_with fail
    go_ret
    exact dre_no h (ab_trans hw hb) (ac_no (acK_deaf HH.out)).1 (ac_no (acK_deaf HH.out)).2
end Go.Proofs.Ytodmhohccclhmaa
