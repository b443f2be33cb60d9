/-
  The document's Refused and Accepted.
  The document's Accepted and Promise.
  The document's Promise.
  A round and the document's one side by side: same.
-/
import Derived.Test.YtpcejajidhfmpaaPk13
import Derived.Deep.CutRange
import Derived.Deep.CutBlock
namespace Go.Proofs.Ytpcejajidhfmpaa
open Go.RowKit
set_option linter.unusedVariables false
set_option maxRecDepth 100000

theorem neBt (x y : Bt) (w : World) : (binOp .neq 23 (bV x) (bV y)).run Try.prog w = .ok (.bool (!eqB x y)) w := by
  have h : eqB x y = (decide (x.n = y.n) && (decide (x.nd = y.nd) && decide (x.lf = y.lf))) := by unfold eqB; rw [Bool.eq_iff_iff]; simp
  rw [h]
  by_cases h1 : x.n = y.n
  · by_cases h2 : x.nd = y.nd
    · by_cases h3 : x.lf = y.lf
      · simp [go_sem, h1, h2, h3]
      · simp [go_sem, h1, h2, h3]
    · simp [go_sem, h1, h2]
  · simp [go_sem, h1]
theorem hear_yes {R : Rd} {k : Int} {x : Bt} (h1 : eqB x R.b = true) (h2 : 0 ≤ k) (h3 : k < (R.n : Int)) : hearB R k x = true := by unfold hearB; rw [h1, decide_eq_true h2, decide_eq_true h3]; rfl
/-- What the document's round answers and leaves. -/
def DrE (W0 W W' : World) (B d g1 g2 g3 : Nat) (R' : Rd) (x : Bool) (e : Ending) : Prop := e = .returned (.bool x) ∧ Drn W0 W' B d g1 g2 g3 R' ∧ Frm (bkr d g1 g2 g3) W W'
theorem dre_no {W0 W W' : World} {B d g1 g2 g3 : Nat} {R R' : Rd} {x : Bool} (h : Drn W0 W B d g1 g2 g3 R) (hb : Below W.heap.size W W') (hx : x = false) (hR : R' = R) : DrE W0 W W' B d g1 g2 g3 R' x (.returned (.bool false)) := by
  subst hx
  subst hR
  exact ⟨rfl, h.keep hb, frm_below hb⟩
theorem rf_deaf {R : Rd} {k : Int} {x g : Bt} (h : hearB R k x = false) : rfB R k x g = false := by unfold rfB; rw [h]; rfl
theorem acK_deaf {R : Rd} {k : Int} {x : Bt} (h : hearB R k x = false) : acK R k x = false := by unfold acK; rw [h]; rfl
theorem pmK_deaf {R : Rd} {k : Int} {x : Bt} (h : hearB R k x = false) : pmK R k x = false := by unfold pmK; rw [h]; rfl
theorem Drn.ned {W0 W : World} {B d g1 g2 g3 : Nat} {R : Rd} (h : Drn W0 W B d g1 g2 g3 R) : g1 ≠ d ∧ g2 ≠ d ∧ g3 ≠ d ∧ g2 ≠ g1 ∧ g2 ≠ g3 := by
  obtain ⟨vo, vn, vv, hB, -⟩ := h.mem
  obtain ⟨os, ho, -⟩ := h.reg
  exact ⟨blk_ne h.has hB (by decide), blk_ne ho hB (by decide), blk_ne h.did hB (by decide), blk_ne ho h.has (by decide), blk_ne ho h.did (by decide)⟩
/-- The struct of the document's round turns. -/
theorem Drn.turn {W0 W W' : World} {B d g1 g2 g3 : Nat} {R R' : Rd} (h : Drn W0 W B d g1 g2 g3 R) (hc : Chg d W W') {vo vn vv : Value} (hB : Blk W' d (rfC R' vo vn vv g1 g2 g3) 92) (i1 : Is W0 vo R'.c.o) (i2 : Is W0 vn R'.c.n) (i3 : Is W0 vv R'.v) (hp : R'.pr = R.pr) (ha : R'.ac = R.ac) (hok : RdOK R') (hs : 1 ≤ R'.st) : Drn W0 W' B d g1 g2 g3 R' ∧ Frm (bkr d g1 g2 g3) W W' := by
  obtain ⟨n1, n2, n3, -, -⟩ := h.ned
  obtain ⟨os, ho, hr, hl⟩ := h.reg
  refine ⟨⟨h.ged, h.ge1, h.ge2, h.ge3, h.ne, ⟨vo, vn, vv, hB, i1, i2, i3⟩, by rw [hp]; exact h.has.chg hc n1, ⟨os, ho.chg hc n2, by rw [hp]; exact hr, hl⟩, by rw [ha]; exact h.did.chg hc n3, hok, h.old.trans (hc.below (Nat.le_trans h.le h.ged)), h.le, hs⟩, frm_chg hc (.inl rfl)⟩
set_option maxHeartbeats 2000000 in
theorem rrefused_any (W0 : World) (B d g1 g2 g3 : Nat) (R : Rd) (k : Int) (x g : Bt) (w : World) (h : Drn W0 w B d g1 g2 g3 R) :
    Calls Try.prog 28 #[dptr d, .int .i64 k, bV x, bV g] w fun e w' => DrE W0 w w' B d g1 g2 g3 (rfS R k x g) (rfB R k x g) e := by
  go_enter Try.func28, Try.ntmps28
  go_upto_region 1 with fail
  obtain ⟨A, hAe, hX, hY, hw⟩ := blk2 w (bC x) (bC g) 23 23
  rw [hAe]
  clear hAe
  have hA := h.keep hw
  obtain ⟨vo, vn, vv, hB, -⟩ := hA.mem
  have e0 : ∀ y : Cls A, y.val.cell? ⟨d, 0, none⟩ = some (.int .i64 (R.n : Int)) := cls_cell (hB.at (i := 0) rfl) hB.lt
  have e1 : ∀ y : Cls A, y.val.cell? ⟨d, 1, none⟩ = some (.int .i64 R.b.n) := cls_cell (hB.at (i := 1) rfl) hB.lt
  have e2 : ∀ y : Cls A, y.val.cell? ⟨d, 2, none⟩ = some (.int .i64 R.b.nd) := cls_cell (hB.at (i := 2) rfl) hB.lt
  have e3 : ∀ y : Cls A, y.val.cell? ⟨d, 3, none⟩ = some (.int .i64 R.b.lf) := cls_cell (hB.at (i := 3) rfl) hB.lt
  have e7 : ∀ y : Cls A, y.val.cell? ⟨d, 7, none⟩ = some (.int .i64 (R.st : Int)) := cls_cell (hB.at (i := 7) rfl) hB.lt
  have x0 : ∀ y : Cls A, y.val.cell? ⟨w.heap.size, 0, none⟩ = some (.int .i64 x.n) := cls_cell (hX.at (i := 0) rfl) hX.lt
  have x1 : ∀ y : Cls A, y.val.cell? ⟨w.heap.size, 1, none⟩ = some (.int .i64 x.nd) := cls_cell (hX.at (i := 1) rfl) hX.lt
  have x2 : ∀ y : Cls A, y.val.cell? ⟨w.heap.size, 2, none⟩ = some (.int .i64 x.lf) := cls_cell (hX.at (i := 2) rfl) hX.lt
  have y0 : ∀ y : Cls A, y.val.cell? ⟨w.heap.size + 1, 0, none⟩ = some (.int .i64 g.n) := cls_cell (hY.at (i := 0) rfl) hY.lt
  have y1 : ∀ y : Cls A, y.val.cell? ⟨w.heap.size + 1, 1, none⟩ = some (.int .i64 g.nd) := cls_cell (hY.at (i := 1) rfl) hY.lt
  have y2 : ∀ y : Cls A, y.val.cell? ⟨w.heap.size + 1, 2, none⟩ = some (.int .i64 g.lf) := cls_cell (hY.at (i := 2) rfl) hY.lt
  have HZ := cls_some A
  have HE : ∀ w, _ := neBt x R.b
  clear hB
  refine wp_region_below (by kernel_rfl) (by kernel_rfl) ?_
  by_cases k1 : 0 ≤ k
  · have i1 : ¬ k < 0 := by omega
    by_cases k2 : k < (R.n : Int)
    · have i2 : ¬ (R.n : Int) ≤ k := by omega
      cases h1 : eqB x R.b
      · rw [h1] at HE
        have HH : Hid (hearB R k x = false) := by show _ = _; unfold hearB; rw [h1]; rfl
        clear h1
        repeat (go_big_quiet_step (fail))
        refine wpQuiet_nil ?_
        rintro _ ⟨y, rfl⟩
        obtain ⟨W2, hb⟩ := y
        dsimp only
        clear e0 e1 e2 e3 e7 x0 x1 x2 y0 y1 y2 HZ HE
        go_wp2_with fail
        go_ret
        exact dre_no h (ab_trans hw hb) (rf_deaf HH.out) (rf_no (rf_deaf HH.out))
      · rw [h1] at HE
        have HH : Hid (hearB R k x = true) := hear_yes h1 k1 k2
        clear h1
        have s1 := h.s1
        by_cases h2 : R.st ≤ 2
        · have j1 : ¬ 2 < (R.st : Int) := by omega
          have j2 : ¬ 2 < R.st := by omega
          have HN : Hid (rfB R k x g = lt3 R.b g) := by
            show _ = _
            unfold rfB
            rw [HH.out]
            have : R.st = 1 ∨ R.st = 2 := by omega
            rcases this with e | e <;> rw [e] <;> simp
          clear h2
          repeat (go_big_quiet_step (first
            | (go_at_call 14; exact calls_below (rbless_any R.b g _))))
          refine wpQuiet_nil ?_
          rintro _ ⟨y, rfl⟩
          obtain ⟨W2, hb⟩ := y
          dsimp only
          clear e0 e1 e2 e3 e7 x0 x1 x2 y0 y1 y2 HZ HE
          have hR2 := hA.keep hb
          have hw2 := ab_trans hw hb
          have hY2 := hY.keep hb
          obtain ⟨u0, u1, u2⟩ := cells3 hY2
          have hbv := Below.refl W2.heap.size W2
          cases h3 : lt3 R.b g
          · rw [h3] at HN
            go_wp2_with fail
            go_ret
            exact dre_no h hw2 HN.out (rf_no HN.out)
          · rw [h3] at HN
            obtain ⟨vo, vn, vv, hB2, I1, I2, I3⟩ := hR2.mem
            have d12 : W2.cell? ⟨d, 13, none⟩ = some (.int .i64 R.mt.n) := hB2.at (i := 13) rfl
            have d13 : W2.cell? ⟨d, 14, none⟩ = some (.int .i64 R.mt.nd) := hB2.at (i := 14) rfl
            have d14 : W2.cell? ⟨d, 15, none⟩ = some (.int .i64 R.mt.lf) := hB2.at (i := 15) rfl
            have d7 : W2.cell? ⟨d, 7, none⟩ = some (.int .i64 (R.st : Int)) := hB2.at (i := 7) rfl
            have f12 := hB2.frozen 13
            have f13 := hB2.frozen 14
            have f14 := hB2.frozen 15
            have f7 := hB2.frozen 7
            go_wp2_with fail
            go_ret
            rw [rf_yes HN.out, HN.out]
            have C5 := ((((chg_set W2 d 13 (.int .i64 g.n)).trans (chg_set _ d 14 (.int .i64 g.nd))).trans (chg_set _ d 15 (.int .i64 g.lf))).trans (chg_set _ d 7 (.int .i64 4)))
            obtain ⟨hR5, F5⟩ := hR2.turn (R' := { R with st := 4, mt := g }) C5 ((((hB2.set 13 _).set 14 _).set 15 _).set 7 _) I1 I2 I3 rfl rfl (hR2.ok.lost 4 g) (by show 1 ≤ 4; omega)
            exact ⟨rfl, hR5, (frm_below hw2).trans F5⟩
        · have j1 : 2 < (R.st : Int) := by omega
          have j2 : 2 < R.st := by omega
          have HN : Hid (rfB R k x g = false) := by
            show _ = _
            unfold rfB
            rw [decide_eq_false (show ¬ R.st = 1 by omega), decide_eq_false (show ¬ R.st = 2 by omega)]
            simp
          repeat (go_big_quiet_step (fail))
          refine wpQuiet_nil ?_
          rintro _ ⟨y, rfl⟩
          obtain ⟨W2, hb⟩ := y
          dsimp only
          clear e0 e1 e2 e3 e7 x0 x1 x2 y0 y1 y2 HZ HE
          go_wp2_with fail
          go_ret
          exact dre_no h (ab_trans hw hb) HN.out (rf_no HN.out)
    · have i2 : (R.n : Int) ≤ k := by omega
      have HH : Hid (hearB R k x = false) := by show _ = _; unfold hearB; rw [decide_eq_false k2]; simp
      repeat (go_big_quiet_step (fail))
      refine wpQuiet_nil ?_
      rintro _ ⟨y, rfl⟩
      obtain ⟨W2, hb⟩ := y
      dsimp only
      clear e0 e1 e2 e3 e7 x0 x1 x2 y0 y1 y2 HZ HE
      go_wp2_with fail
      go_ret
      exact dre_no h (ab_trans hw hb) (rf_deaf HH.out) (rf_no (rf_deaf HH.out))
  · have i1 : k < 0 := by omega
    have HH : Hid (hearB R k x = false) := by show _ = _; unfold hearB; rw [decide_eq_false k1]; simp
    repeat (go_big_quiet_step (fail))
    refine wpQuiet_nil ?_
    rintro _ ⟨y, rfl⟩
    obtain ⟨W2, hb⟩ := y
    dsimp only
    clear e0 e1 e2 e3 e7 x0 x1 x2 y0 y1 y2 HZ HE
    go_wp2_with fail
    go_ret
    exact dre_no h (ab_trans hw hb) (rf_deaf HH.out) (rf_no (rf_deaf HH.out))
end Go.Proofs.Ytpcejajidhfmpaa
namespace Go.Proofs.Ytpcejajidhfmpaa
open Go.RowKit
set_option linter.unusedVariables false
set_option maxRecDepth 100000

theorem set_mid (t : TypeId) : ∀ (vs : List Value) (W : World) (g : Nat) (A B C : List Value), Blk W g (A ++ B ++ C).toArray t → B.length = vs.length → Blk (W.setCells g A.length vs) g (A ++ vs ++ C).toArray t ∧ Chg g W (W.setCells g A.length vs)
  | [], W, g, A, B, C, h, hl => by
    have : B = [] := List.eq_nil_of_length_eq_zero hl
    subst this
    exact ⟨h, Chg.refl _ _⟩
  | v :: vs, W, g, A, [], C, h, hl => by simp at hl
  | v :: vs, W, g, A, b :: B, C, h, hl => by
    have h1 := h.set A.length v
    have e : (A ++ (b :: B) ++ C).toArray.setIfInBounds A.length v = ((A ++ [v]) ++ B ++ C).toArray := by
      apply Array.ext'
      simp
    rw [e] at h1
    obtain ⟨h2, h3⟩ := set_mid t vs _ g (A ++ [v]) B C h1 (by simpa using hl)
    have e2 : (A ++ [v]).length = A.length + 1 := by simp
    rw [e2] at h2 h3
    refine ⟨?_, (chg_set W g A.length v).trans h3⟩
    have e3 : A ++ [v] ++ vs ++ C = A ++ (v :: vs) ++ C := by simp
    rw [e3] at h2
    exact h2
theorem flR_cut {os : List RrD} {m : Nat} {r : RrD} (h : os[m]? = some r) : flR os = flR (os.take m) ++ (rC r.p r.a r.v).toList ++ flR (os.drop (m + 1)) := by
  have hm : m < os.length := (List.getElem?_eq_some_iff.1 h).1
  have e : os = os.take m ++ r :: os.drop (m + 1) := by
    have := List.take_append_drop m os
    rw [← this]
    rw [List.getElem?_eq_getElem hm] at h
    cases h
    simp
  conv => lhs; rw [e]
  rw [flR_append, flR_cons, List.append_assoc]
theorem rg_stored {W : World} {g m : Nat} {os : List RrD} {t : TypeId} (h : Blk W g (flR os).toArray t) (hm : m < os.length) (r : RrD) :
    Blk (W.setCells g (m * 7) (rC r.p r.a r.v).toList) g (flR (os.set m r)).toArray t ∧ Chg g W (W.setCells g (m * 7) (rC r.p r.a r.v).toList) ∧ W.there g (m * 7) 7 := by
  have h0 : os[m]? = some os[m] := List.getElem?_eq_getElem hm
  have hl : (flR (os.take m)).length = m * 7 := by rw [flR_len, List.length_take]; congr 1; omega
  have hB := h
  rw [flR_cut h0] at hB
  obtain ⟨h1, h2⟩ := set_mid t (rC r.p r.a r.v).toList W g _ _ _ hB rfl
  rw [hl] at h1 h2
  have e : flR (os.set m r) = flR (os.take m) ++ (rC r.p r.a r.v).toList ++ flR (os.drop (m + 1)) := by
    have h3 : (os.set m r)[m]? = some r := by rw [List.getElem?_set_self hm]
    rw [flR_cut h3, List.take_set_of_le (Nat.le_refl _), List.drop_set_of_lt (by omega)]
  rw [e]
  refine ⟨h1, h2, fun j hj => ⟨?_, h.frozen _⟩⟩
  rw [h.cell]
  have hz : m * 7 + j < (flR os).length := by rw [flR_len]; omega
  rw [List.getElem?_toArray, List.getElem?_eq_getElem hz]
  rfl
/-- Who accepted turns. -/
theorem Drn.dids {W0 W W' : World} {B d g1 g2 g3 : Nat} {R : Rd} (h : Drn W0 W B d g1 g2 g3 R) {j : Nat} (hc : Chg g3 W W') (hB : Blk W' g3 (bls (acP R (j : Int))) 4) : Drn W0 W' B d g1 g2 g3 { R with ac := acP R (j : Int) } := by
  obtain ⟨n1, n2, n3, n4, n5⟩ := h.ned
  obtain ⟨vo, vn, vv, hB0, i1, i2, i3⟩ := h.mem
  obtain ⟨os, ho, hr, hl⟩ := h.reg
  exact ⟨h.ged, h.ge1, h.ge2, h.ge3, h.ne, ⟨vo, vn, vv, hB0.chg hc (fun e => n3 e.symm), i1, i2, i3⟩, h.has.chg hc h.ne, ⟨os, ho.chg hc n5, hr, hl⟩, hB, h.ok.acc _ R.st, h.old.trans (hc.below (Nat.le_trans h.le h.ge3)), h.le, h.s1⟩
set_option maxHeartbeats 2000000 in
theorem raccepted_any (W0 : World) (B d g1 g2 g3 : Nat) (R : Rd) (k : Int) (x : Bt) (w : World) (h : Drn W0 w B d g1 g2 g3 R) :
    Calls Try.prog 27 #[dptr d, .int .i64 k, bV x] w fun e w' => DrE W0 w w' B d g1 g2 g3 (acS R k x) (acB R k x) e := by
  go_enter Try.func27, Try.ntmps27
  go_upto_region 1 with fail
  obtain ⟨A, hAe, hX, hw⟩ := blk1 w (bC x) 23
  rw [hAe]
  clear hAe
  have hA := h.keep hw
  obtain ⟨vo, vn, vv, hB, -⟩ := hA.mem
  have e0 : ∀ y : Cls A, y.val.cell? ⟨d, 0, none⟩ = some (.int .i64 (R.n : Int)) := cls_cell (hB.at (i := 0) rfl) hB.lt
  have e1 : ∀ y : Cls A, y.val.cell? ⟨d, 1, none⟩ = some (.int .i64 R.b.n) := cls_cell (hB.at (i := 1) rfl) hB.lt
  have e2 : ∀ y : Cls A, y.val.cell? ⟨d, 2, none⟩ = some (.int .i64 R.b.nd) := cls_cell (hB.at (i := 2) rfl) hB.lt
  have e3 : ∀ y : Cls A, y.val.cell? ⟨d, 3, none⟩ = some (.int .i64 R.b.lf) := cls_cell (hB.at (i := 3) rfl) hB.lt
  have e7 : ∀ y : Cls A, y.val.cell? ⟨d, 7, none⟩ = some (.int .i64 (R.st : Int)) := cls_cell (hB.at (i := 7) rfl) hB.lt
  have x0 : ∀ y : Cls A, y.val.cell? ⟨w.heap.size, 0, none⟩ = some (.int .i64 x.n) := cls_cell (hX.at (i := 0) rfl) hX.lt
  have x1 : ∀ y : Cls A, y.val.cell? ⟨w.heap.size, 1, none⟩ = some (.int .i64 x.nd) := cls_cell (hX.at (i := 1) rfl) hX.lt
  have x2 : ∀ y : Cls A, y.val.cell? ⟨w.heap.size, 2, none⟩ = some (.int .i64 x.lf) := cls_cell (hX.at (i := 2) rfl) hX.lt
  have HZ := cls_some A
  have HE : ∀ w, _ := neBt x R.b
  clear hB
  refine wp_region_below (by kernel_rfl) (by kernel_rfl) ?_
  by_cases k1 : 0 ≤ k
  · have i1 : ¬ k < 0 := by omega
    by_cases k2 : k < (R.n : Int)
    · have i2 : ¬ (R.n : Int) ≤ k := by omega
      cases h1 : eqB x R.b
      · rw [h1] at HE
        have HH : Hid (hearB R k x = false) := by show _ = _; unfold hearB; rw [h1]; rfl
        clear h1
        repeat (go_big_quiet_step (fail))
        refine wpQuiet_nil ?_
        rintro _ ⟨y, rfl⟩
        obtain ⟨W2, hb⟩ := y
        dsimp only
        clear e0 e1 e2 e3 e7 x0 x1 x2 HZ HE
        go_wp2_with fail
        go_ret
        exact dre_no h (ab_trans hw hb) (ac_no (acK_deaf HH.out)).1 (ac_no (acK_deaf HH.out)).2
      · rw [h1] at HE
        have HH : Hid (hearB R k x = true) := hear_yes h1 k1 k2
        clear h1
        by_cases h2 : R.st = 2
        · have j1 : ((R.st : Int) != 2) = false := by rw [h2]; rfl
          have HK : Hid (acK R k x = true) := by show _ = _; unfold acK; rw [HH.out, h2]; rfl
          clear h2
          repeat (go_big_quiet_step (fail))
          refine wpQuiet_nil ?_
          rintro _ ⟨y, rfl⟩
          obtain ⟨W2, hb⟩ := y
          dsimp only
          clear e0 e1 e2 e3 e7 x0 x1 x2 HZ HE
          have hR2 := hA.keep hb
          have hw2 := ab_trans hw hb
          obtain ⟨j, rfl⟩ : ∃ j : Nat, k = (j : Int) := ⟨k.toNat, by omega⟩
          have hjn : j < R.n := by omega
          have hok := h.ok
          have hal := hok.al
          have h5 := hok.n5
          obtain ⟨vo, vn, vv, hB2, I1, I2, I3⟩ := hR2.mem
          have d10 : W2.cell? ⟨d, 10, none⟩ = some (.slice (some ⟨g3, 0, none⟩) R.n R.n) := hB2.at (i := 10) rfl
          have hD := hR2.did
          obtain ⟨y, hy⟩ : ∃ y, R.ac[j]? = some y := ⟨R.ac[j]'(by omega), List.getElem?_eq_getElem _⟩
          have z1 : W2.cell? ⟨g3, j, none⟩ = some (.bool y) := hD.at (bls_at hy)
          have f1 := hD.frozen j
          clear hB2
          go_upto_region 4 with fail
          have hD3 : Blk (W2.setCell ⟨g3, j, none⟩ (.bool true)) g3 (bls (acP R (j : Int))) 4 := by
            have := hD.set j (.bool true)
            rw [bls_set] at this
            unfold acP
            rw [Int.toNat_natCast]
            exact this
          have C3 := chg_set W2 g3 j (.bool true)
          generalize W2.setCell ⟨g3, j, none⟩ (.bool true) = W3 at hD3 C3 ⊢
          have hR3 := hR2.dids C3 hD3
          have hF3 : Frm (bkr d g1 g2 g3) w W3 := (frm_below hw2).trans (frm_chg C3 (.inr (.inr (.inr rfl))))
          have hal2 : (acP R (j : Int)).length = R.n := by unfold acP; rw [List.length_set]; exact hal
          have hcl := cntB_le (acP R (j : Int))
          obtain ⟨vo3, vn3, vv3, hB3, J1, J2, J3⟩ := hR3.mem
          have HC : Hid (∀ y : Cls W3, Calls Try.prog 40 #[.slice (some ⟨g3, 0, none⟩) R.n R.n] y.val fun e w' => e = .returned (.int .i64 ((cntB (acP R (j : Int)) : Nat) : Int)) ∧ Below y.val.heap.size y.val w') := fun y => count_any g3 R.n _ y.val (hD3.keep y.prop) hal2 (by omega)
          generalize hN : cntB (acP R (j : Int)) = N at HC hcl
          have e0 : ∀ y : Cls W3, y.val.cell? ⟨d, 0, none⟩ = some (.int .i64 (R.n : Int)) := cls_cell (hB3.at (i := 0) rfl) hB3.lt
          have e10 : ∀ y : Cls W3, y.val.cell? ⟨d, 10, none⟩ = some (.slice (some ⟨g3, 0, none⟩) R.n R.n) := cls_cell (hB3.at (i := 10) rfl) hB3.lt
          have HZ := cls_some W3
          refine wp_region_below (by kernel_rfl) (by kernel_rfl) ?_
          repeat (go_big_quiet_step (first
            | (go_at_call 40; exact calls_below (HC.out _))))
          refine wpQuiet_nil ?_
          rintro _ ⟨y, rfl⟩
          obtain ⟨W4, b4⟩ := y
          dsimp only
          clear e0 e10 HC HZ d10 z1 f1
          have hR4 := hR3.keep b4
          have hF4 : Frm (bkr d g1 g2 g3) w W4 := hF3.trans (frm_below b4)
          have hB4 := hB3.keep b4
          by_cases h3 : R.n < 2 * N
          · have HN : Hid (acB R (j : Int) x = true ∧ acS R (j : Int) x = { R with ac := acP R (j : Int), st := 3 }) := ac_all HK.out (by rw [hN]; exact h3)
            have t1 : ¬ 2 * N ≤ R.n := by omega
            have t2 : ¬ (2 * (N : Int) ≤ (R.n : Int)) := by omega
            have d7 : W4.cell? ⟨d, 7, none⟩ = some (.int .i64 (R.st : Int)) := hB4.at (i := 7) rfl
            have f7 := hB4.frozen 7
            go_wp2_with fail
            go_ret
            rw [HN.out.1, HN.out.2]
            obtain ⟨hR5, F5⟩ := hR4.turn (R' := { R with ac := acP R (j : Int), st := 3 }) (chg_set W4 d 7 (.int .i64 3)) (hB4.set 7 _) J1 J2 J3 rfl rfl (hok.acc _ 3) (by show 1 ≤ 3; omega)
            exact ⟨rfl, hR5, hF4.trans F5⟩
          · have HN : Hid (acB R (j : Int) x = false ∧ acS R (j : Int) x = { R with ac := acP R (j : Int) }) := ac_few HK.out (by rw [hN]; exact h3)
            have t1 : 2 * N ≤ R.n := by omega
            have t2 : 2 * (N : Int) ≤ (R.n : Int) := by omega
            go_wp2_with fail
            go_ret
            rw [HN.out.1, HN.out.2]
            exact ⟨rfl, hR4, hF4⟩
        · have j1 : ((R.st : Int) != 2) = true := by simp; omega
          have HK : Hid (acK R k x = false) := by show _ = _; unfold acK; rw [decide_eq_false h2]; simp
          repeat (go_big_quiet_step (fail))
          refine wpQuiet_nil ?_
          rintro _ ⟨y, rfl⟩
          obtain ⟨W2, hb⟩ := y
          dsimp only
          clear e0 e1 e2 e3 e7 x0 x1 x2 HZ HE
          go_wp2_with fail
          go_ret
          exact dre_no h (ab_trans hw hb) (ac_no HK.out).1 (ac_no HK.out).2
    · have i2 : (R.n : Int) ≤ k := by omega
      have HH : Hid (hearB R k x = false) := by show _ = _; unfold hearB; rw [decide_eq_false k2]; simp
      repeat (go_big_quiet_step (fail))
      refine wpQuiet_nil ?_
      rintro _ ⟨y, rfl⟩
      obtain ⟨W2, hb⟩ := y
      dsimp only
      clear e0 e1 e2 e3 e7 x0 x1 x2 HZ HE
      go_wp2_with fail
      go_ret
      exact dre_no h (ab_trans hw hb) (ac_no (acK_deaf HH.out)).1 (ac_no (acK_deaf HH.out)).2
  · have i1 : k < 0 := by omega
    have HH : Hid (hearB R k x = false) := by show _ = _; unfold hearB; rw [decide_eq_false k1]; simp
    repeat (go_big_quiet_step (fail))
    refine wpQuiet_nil ?_
    rintro _ ⟨y, rfl⟩
    obtain ⟨W2, hb⟩ := y
    dsimp only
    clear e0 e1 e2 e3 e7 x0 x1 x2 HZ HE
    go_wp2_with fail
    go_ret
    exact dre_no h (ab_trans hw hb) (ac_no (acK_deaf HH.out)).1 (ac_no (acK_deaf HH.out)).2
end Go.Proofs.Ytpcejajidhfmpaa
namespace Go.Proofs.Ytpcejajidhfmpaa
open Go.RowKit
set_option linter.unusedVariables false
set_option maxRecDepth 100000

theorem ro_rowS {W : World} {base n c : Nat} {q : Option Addr} {os : List RrD} (h : Ro W base (.slice q n c) os) (hc : ∀ r ∈ os, Is W r.v r.l) (hz : ∀ r ∈ os, r.l.length ≤ 17592186043904) : ∃ g, RrRow W q n c g 0 os := by
  rcases h.2 with ⟨h1, h2⟩ | ⟨g, cap, cur, h1, hb, hg, h3, h4, h5, h6⟩
  · cases h1
    have : os = [] := List.eq_nil_of_length_eq_zero h2
    subst this
    exact ⟨0, rfl, by omega, by omega, fun h => absurd h (by omega), fun h => absurd h (by omega), fun j x hx => by simp at hx⟩
  · cases h1
    have hcell : ∀ j u, (flR os)[j]? = some u → W.cell? ⟨g, j, none⟩ = some u := by
      intro j u hu
      have hj : j < (flR os).length := (List.getElem?_eq_some_iff.1 hu).1
      rw [cell_of_row W g j cur 61 (0, 0) hg]
      have hl := h.1
      rw [← h6, List.getElem?_take_of_lt (by omega)] at hu
      simpa using hu
    refine ⟨g, rfl, h3, by unfold maxLen at h4; omega, fun _ => rfl, fun _ => (Array.getElem?_eq_some_iff.1 hg).1, fun j x hx => ?_⟩
    rw [Nat.zero_add]
    have hm := List.mem_of_getElem? hx
    exact ⟨hcell _ _ (flR_at (i := 0) hx (by omega)), hcell _ _ (flR_at (i := 1) hx (by omega)), hcell _ _ (flR_at (i := 2) hx (by omega)), hcell _ _ (flR_at (i := 3) hx (by omega)), hcell _ _ (flR_at (i := 4) hx (by omega)), hcell _ _ (flR_at (i := 5) hx (by omega)), hcell _ _ (flR_at (i := 6) hx (by omega)), hc x hm, hz x hm⟩
theorem stM {P : Program} {o : Oper} {a : Act} {w : World} {K : Act → World → Prop} {Q : Exit → Act → World → Prop} (d : Option Tmp) (hd : o.dst = d) (ty : TypeId) (x y : Operand) (ho : o.op = .store ty x y) (b i : Nat) (cells : Array Value) (hx : a.eval x = .pointer (some ⟨b, i, none⟩)) (hy : a.eval y = .agg cells)
    (ht : w.there b i cells.size) (hi : (P.info? ty).map (·.size) = some cells.size) (h1 : cells.all (·.oneCell') = true) (h : K (a.put d undef) (w.setCells b i cells.toList)) : o.wp P a w K Q := by
  subst hd
  exact wp_store_mid ty x y ho b i cells hx hy ht hi h1 h
theorem ab_trans' {W0 A B : World} (h : Below W0.heap.size W0 A) (k : Below A.heap.size A B) : Below W0.heap.size W0 B := h.trans (k.mono h.size)
theorem has_set (pr : List (Option (Bt × List Int))) (j : Nat) (x : Bt × List Int) : hasL (pr.set j (some x)) = (hasL pr).set j true := by
  unfold hasL
  rw [List.map_set]
  rfl
theorem has_at {pr : List (Option (Bt × List Int))} {j : Nat} {y : Option (Bt × List Int)} (h : pr[j]? = some y) : (hasL pr)[j]? = some y.isSome := by
  unfold hasL
  rw [List.getElem?_map, h]
  rfl
theorem rgs_set {W0 : World} {os : List RrD} {pr : List (Option (Bt × List Int))} (h : RgsOK W0 os pr) {j : Nat} {p a : Bt} {v : Value} {l : List Int} (hv : Is W0 v l) (hj : j < os.length) : RgsOK W0 (os.set j ⟨p, a, v, l⟩) (pr.set j (some (a, l))) := by
  refine ⟨by rw [List.length_set, List.length_set]; exact h.len, fun k a' l' hk => ?_⟩
  by_cases e : k = j
  · subst e
    rw [List.getElem?_set_self (by rw [← h.len]; exact hj)] at hk
    cases hk
    exact ⟨_, List.getElem?_set_self hj, rfl, hv⟩
  · rw [List.getElem?_set_ne (fun e' => e e'.symm)] at hk ⊢
    exact h.at' k a' l' hk
theorem slr_set {os : List RrD} (h : SlR os) {j : Nat} {r : RrD} (hr : ∃ q n c, r.v = .slice q n c) : SlR (os.set j r) := by
  intro x hx
  rcases List.mem_or_eq_of_mem_set hx with e | e
  · exact h x e
  · subst e; exact hr
/-- A promise more. -/
theorem Drn.prs {W0 W W1 W2 : World} {B d g1 g2 g3 : Nat} {R : Rd} (h : Drn W0 W B d g1 g2 g3 R) {j : Nat} {p a : Bt} {v : Value} {l : List Int} (hv : Is W0 v l) (hl : l.length ≤ 1000) (hx : R.pr[j]? = some none) (hs : ∃ q n c, v = .slice q n c)
    (c1 : Chg g1 W W1) (B1 : Blk W1 g1 (bls ((hasL R.pr).set j true)) 4) {os : List RrD} (hos : Blk W g2 (flR os).toArray 61) (hr : RgsOK W0 os R.pr) (hsl : SlR os) (c2 : Chg g2 W1 W2) (B2 : Blk W2 g2 (flR (os.set j ⟨p, a, v, l⟩)).toArray 61) :
    Drn W0 W2 B d g1 g2 g3 { R with pr := pmP R (j : Int) a l } := by
  obtain ⟨n1, n2, n3, n4, n5⟩ := h.ned
  obtain ⟨vo, vn, vv, hB0, i1, i2, i3⟩ := h.mem
  have hj : j < os.length := by rw [hr.len]; exact (List.getElem?_eq_some_iff.1 hx).1
  have e : pmP R (j : Int) a l = R.pr.set j (some (a, l)) := by unfold pmP; rw [Int.toNat_natCast]
  refine ⟨h.ged, h.ge1, h.ge2, h.ge3, h.ne, ⟨vo, vn, vv, (hB0.chg c1 (fun e => n1 e.symm)).chg c2 (fun e => n2 e.symm), i1, i2, i3⟩, ?_, ⟨_, B2, ?_, slr_set hsl hs⟩, (h.did.chg c1 (fun e => h.ne e.symm)).chg c2 (fun e => n5 e.symm), h.ok.put hl, ?_, h.le, h.s1⟩
  · show Blk W2 g1 (bls (hasL (pmP R (j : Int) a l))) _
    rw [e, has_set]
    exact B1.chg c2 (fun e => n4 e.symm)
  · show RgsOK W0 _ (pmP R (j : Int) a l)
    rw [e]
    exact rgs_set hr hv hj
  · exact (h.old.trans (c1.below (Nat.le_trans h.le h.ge1))).trans (c2.below (Nat.le_trans h.le h.ge2))
set_option maxHeartbeats 4000000 in
theorem rpromise_any (W0 : World) (B d g1 g2 g3 : Nat) (R : Rd) (k : Int) (x p a : Bt) (v : Value) (l : List Int) (w : World) (h : Drn W0 w B d g1 g2 g3 R) (hv : Is W0 v l) (hl : l.length ≤ 1000) :
    Calls Try.prog 26 #[dptr d, .int .i64 k, bV x, rV p a v] w fun e w' => DrE W0 w w' B d g1 g2 g3 (pmS R k x a l) (pmB R k x) e := by
  obtain ⟨q, c, e⟩ := hv.form
  subst e
  obtain ⟨n, hn⟩ : ∃ n, l.length = n := ⟨_, rfl⟩
  rw [hn] at hv ⊢
  go_enter Try.func26, Try.ntmps26
  go_upto_region 1 with fail
  obtain ⟨A, hAe, hX, hY, hw⟩ := blk2 w (bC x) (rC p a (.slice q n c)) 23 61
  rw [hAe]
  clear hAe
  have hA := h.keep hw
  obtain ⟨vo, vn, vv, hB, -⟩ := hA.mem
  have e0 : ∀ y : Cls A, y.val.cell? ⟨d, 0, none⟩ = some (.int .i64 (R.n : Int)) := cls_cell (hB.at (i := 0) rfl) hB.lt
  have e1 : ∀ y : Cls A, y.val.cell? ⟨d, 1, none⟩ = some (.int .i64 R.b.n) := cls_cell (hB.at (i := 1) rfl) hB.lt
  have e2 : ∀ y : Cls A, y.val.cell? ⟨d, 2, none⟩ = some (.int .i64 R.b.nd) := cls_cell (hB.at (i := 2) rfl) hB.lt
  have e3 : ∀ y : Cls A, y.val.cell? ⟨d, 3, none⟩ = some (.int .i64 R.b.lf) := cls_cell (hB.at (i := 3) rfl) hB.lt
  have e7 : ∀ y : Cls A, y.val.cell? ⟨d, 7, none⟩ = some (.int .i64 (R.st : Int)) := cls_cell (hB.at (i := 7) rfl) hB.lt
  have e8 : ∀ y : Cls A, y.val.cell? ⟨d, 8, none⟩ = some (.slice (some ⟨g1, 0, none⟩) R.n R.n) := cls_cell (hB.at (i := 8) rfl) hB.lt
  have x0 : ∀ y : Cls A, y.val.cell? ⟨w.heap.size, 0, none⟩ = some (.int .i64 x.n) := cls_cell (hX.at (i := 0) rfl) hX.lt
  have x1 : ∀ y : Cls A, y.val.cell? ⟨w.heap.size, 1, none⟩ = some (.int .i64 x.nd) := cls_cell (hX.at (i := 1) rfl) hX.lt
  have x2 : ∀ y : Cls A, y.val.cell? ⟨w.heap.size, 2, none⟩ = some (.int .i64 x.lf) := cls_cell (hX.at (i := 2) rfl) hX.lt
  have HZ := cls_some A
  have HE : ∀ w, _ := neBt x R.b
  clear hB
  refine wp_region_below (by kernel_rfl) (by kernel_rfl) ?_
  by_cases k1 : 0 ≤ k
  · have i1 : ¬ k < 0 := by omega
    by_cases k2 : k < (R.n : Int)
    · have i2 : ¬ (R.n : Int) ≤ k := by omega
      cases h1 : eqB x R.b
      · rw [h1] at HE
        have HH : Hid (hearB R k x = false) := by show _ = _; unfold hearB; rw [h1]; rfl
        clear h1
        repeat (go_big_quiet_step (fail))
        refine wpQuiet_nil ?_
        rintro _ ⟨y, rfl⟩
        obtain ⟨W2, hb⟩ := y
        dsimp only
        clear e0 e1 e2 e3 e7 e8 x0 x1 x2 HZ HE
        go_wp2_with fail
        go_ret
        exact dre_no h (ab_trans hw hb) (pm_no (a := a) (l := l) (pmK_deaf HH.out)).1 (pm_no (pmK_deaf HH.out)).2
      · rw [h1] at HE
        have HH : Hid (hearB R k x = true) := hear_yes h1 k1 k2
        clear h1
        by_cases h2 : R.st = 1
        · have j1 : ((R.st : Int) != 1) = false := by rw [h2]; rfl
          obtain ⟨j, rfl⟩ : ∃ j : Nat, k = (j : Int) := ⟨k.toNat, by omega⟩
          have hjn : j < R.n := by omega
          have hok := h.ok
          have hpl := hok.pl
          have h5 := hok.n5
          have hjp : j < R.pr.length := by omega
          have hH := hA.has
          cases hx : R.pr[j]? with
          | none => rw [List.getElem?_eq_none_iff] at hx; omega
          | some y =>
            have z0 : ∀ y' : Cls A, y'.val.cell? ⟨g1, j, none⟩ = some (.bool y.isSome) := cls_cell (hH.at (bls_at (has_at hx))) hH.lt
            cases y with
            | some y =>
              obtain ⟨a', l'⟩ := y
              have HN : Hid (pmB R (j : Int) x = false ∧ pmS R (j : Int) x a l = R) := pm_no (by unfold pmK; rw [(prsd_iff hjp).2.2 ⟨a', l', hx⟩]; simp)
              have z0 : ∀ y' : Cls A, y'.val.cell? ⟨g1, j, none⟩ = some (.bool true) := z0
              clear h2 hx
              repeat (go_big_quiet_step (fail))
              refine wpQuiet_nil ?_
              rintro _ ⟨y, rfl⟩
              obtain ⟨W2, hb⟩ := y
              dsimp only
              clear e0 e1 e2 e3 e7 e8 x0 x1 x2 z0 HZ HE
              go_wp2_with fail
              go_ret
              exact dre_no h (ab_trans hw hb) HN.out.1 HN.out.2
            | none =>
              have HK : Hid (pmK R (j : Int) x = true) := pmK_yes HH.out h2 hx
              have z0 : ∀ y' : Cls A, y'.val.cell? ⟨g1, j, none⟩ = some (.bool false) := z0
              clear h2
              repeat (go_big_quiet_step (fail))
              refine wpQuiet_nil ?_
              rintro _ ⟨y, rfl⟩
              obtain ⟨W2, hb⟩ := y
              dsimp only
              clear e0 e1 e2 e3 e7 e8 x0 x1 x2 z0 HZ HE
              have hR2 := hA.keep hb
              have hw2 := ab_trans hw hb
              have hY2 := hY.keep hb
              obtain ⟨vo, vn, vv, hB2, I1, I2, I3⟩ := hR2.mem
              obtain ⟨os, hos, hrg, hsl⟩ := hR2.reg
              have hH2 := hR2.has
              have hol : os.length = R.n := by rw [hrg.len]; exact hpl
              obtain ⟨n1, n2, n3, n4, n5⟩ := hR2.ned
              have d8 : W2.cell? ⟨d, 8, none⟩ = some (.slice (some ⟨g1, 0, none⟩) R.n R.n) := hB2.at (i := 8) rfl
              have z1 : W2.cell? ⟨g1, j, none⟩ = some (.bool false) := hH2.at (bls_at (has_at hx))
              have f1 := hH2.frozen j
              clear hY hX
              go_upto_region 4 with fail
              have hH3 : Blk (W2.setCell ⟨g1, j, none⟩ (.bool true)) g1 (bls ((hasL R.pr).set j true)) 4 := by
                have := hH2.set j (.bool true)
                rw [bls_set] at this
                exact this
              have C3 := chg_set W2 g1 j (.bool true)
              generalize W2.setCell ⟨g1, j, none⟩ (.bool true) = W3 at hH3 C3 ⊢
              have hY3 := hY2.chg C3 (blk_ne hY2 hH2 (by decide))
              have hB3 := hB2.chg C3 (fun e => n1 e.symm)
              have hos3 := hos.chg C3 n4
              clear d8 z1 f1
              have hgY : w.heap.size + 1 ≠ g2 := by obtain ⟨os0, ho0, -⟩ := h.reg; have := ho0.lt; omega
              have D : ∀ W, Frm (fun i => i = g2) W3 W → Blk W d (rfC R vo vn vv g1 g2 g3) 92 ∧ Blk W (w.heap.size + 1) (rC p a (.slice q n c)) 61 := fun W hF => ⟨hB3.frm hF (fun e => n2 e.symm), hY3.frm hF hgY⟩
              refine wp_region_held_drew (S := fun w' => Frm (fun i => i = g2) W3 w') (by kernel_rfl) (frm_below (ab_drew (Below.refl _ _))) (fun hHeld => ?_)
              refine takeH (i := 0) (some 53) rfl rfl (by kernel_rfl) (by kernel_rfl) (by kernel_rfl) (fun _ _ _ h => h) (by rfl) (fun w hSw => by (try dsimp only at hSw); go_simp; try rfl) hHeld ?_
              go_frame
              refine takeH (i := 1) (some 54) rfl rfl (by kernel_rfl) (by kernel_rfl) (by kernel_rfl) (fun _ _ _ h => h) (by rfl) (fun w hSw => by (try dsimp only at hSw); go_simp; try rfl) hHeld ?_
              go_frame
              refine takeH (i := 2) (some 55) rfl rfl (by kernel_rfl) (by kernel_rfl) (by kernel_rfl) (fun _ _ _ h => h) (by rfl) (fun w hSw => by (try dsimp only at hSw); go_simp; try rfl) hHeld ?_
              go_frame
              refine takeH (i := 3) (some 56) rfl rfl (by kernel_rfl) (by kernel_rfl) (by kernel_rfl) (fun _ _ _ h => h) (by rfl) (fun w hSw => by (try dsimp only at hSw); have hh := (D _ hSw).1; have y0 := hh.at (i := 9) rfl; go_simp; try rfl) hHeld ?_
              go_frame
              refine takeH (i := 4) (some 57) rfl rfl (by kernel_rfl) (by kernel_rfl) (by kernel_rfl) (fun _ _ _ h => h) (by rfl) (fun w hSw => by (try dsimp only at hSw); go_simp; try rfl) hHeld ?_
              go_frame
              refine takeH (i := 5) (some 58) rfl rfl (by kernel_rfl) (by kernel_rfl) (by kernel_rfl) (fun _ _ _ h => h) (by rfl) (fun w hSw => by (try dsimp only at hSw); have hh := (D _ hSw).2; have y0 := hh.at (i := 0) rfl; have y1 := hh.at (i := 1) rfl; have y2 := hh.at (i := 2) rfl; have y3 := hh.at (i := 3) rfl; have y4 := hh.at (i := 4) rfl; have y5 := hh.at (i := 5) rfl; have y6 := hh.at (i := 6) rfl; go_simp; try rfl) hHeld ?_
              go_frame
              refine takeH (i := 6) (some 59) rfl rfl (by kernel_rfl) (by kernel_rfl) (by kernel_rfl) (fun _ _ _ h => h) (by rfl) (fun w hSw => by (try dsimp only at hSw); go_simp; try rfl) hHeld ?_
              go_frame
              refine wpAnyH_ready (rs := [7]) (by kernel_rfl) (by simp) (AllReadyH.cons rfl (fun K hK => ?_) AllReadyH.nil)
              rw [if_pos (by rfl)]
              obtain ⟨s1, s2, s3⟩ := rg_stored hos3.drew (m := j) (by omega) ⟨p, a, .slice q n c, l⟩
              refine stM none rfl 61 _ _ rfl g2 (j * 7) (rC p a (.slice q n c)) rfl rfl s3 (info_rg _ _ _) (rg_one _ _ _ _ _) ?_
              have C4 : Chg g2 W3 _ := (show Chg g2 W3 W3.drew from ⟨rfl, rfl, rfl, rfl, fun _ _ => rfl⟩).trans s2
              have hR4 := hR2.prs (p := p) hv hl hx ⟨_, _, _, rfl⟩ C3 hH3 hos hrg hsl C4 s1
              refine hK.out _ _ (frm_chg C4 rfl) (fun hHeld => ?_)
              clear hK K
              generalize W3.drew.setCells g2 (j * 7) _ = W4 at *
              simp only [Act.put]
              refine wpAnyH_done (by kernel_rfl) ?_ _
              have hF4 : Frm (bkr d g1 g2 g3) w W4 := ((frm_below hw2).trans (frm_chg C3 (.inr (.inl rfl)))).trans (frm_chg C4 (.inr (.inr (.inl rfl))))
              clear D hB2 hB3 hos3 hY3 hY2 hos hrg hsl hH2 hH3 C3 C4 s1 s2 s3 hHeld I1 I2 I3 hR2 hA
              have hcnt : cntO (pmP R (j : Int) a l) = cntO R.pr + 1 := by unfold pmP; rw [Int.toNat_natCast]; exact cntO_set _ hx
              have hpl2 : (pmP R (j : Int) a l).length = R.n := by unfold pmP; rw [List.length_set]; exact hpl
              have hcl := cntO_le R.pr
              have HC : Hid (∀ y : Cls W4, Calls Try.prog 40 #[.slice (some ⟨g1, 0, none⟩) R.n R.n] y.val fun e w' => e = .returned (.int .i64 ((cntO R.pr + 1 : Nat) : Int)) ∧ Below y.val.heap.size y.val w') := fun y => by
                have := count_any g1 R.n _ y.val (hR4.has.keep y.prop) (by unfold hasL; rw [List.length_map]; exact hpl2) (by omega)
                rw [cnt_has] at this
                dsimp only at this
                rw [hcnt] at this
                exact this
              generalize hN : cntO R.pr + 1 = N at HC
              obtain ⟨vo4, vn4, vv4, hB4, J1, J2, J3⟩ := hR4.mem
              have e0 : ∀ y : Cls W4, y.val.cell? ⟨d, 0, none⟩ = some (.int .i64 (R.n : Int)) := cls_cell (hB4.at (i := 0) rfl) hB4.lt
              have e8 : ∀ y : Cls W4, y.val.cell? ⟨d, 8, none⟩ = some (.slice (some ⟨g1, 0, none⟩) R.n R.n) := cls_cell (hB4.at (i := 8) rfl) hB4.lt
              have HZ := cls_some W4
              go_upto_region 5 with fail
              refine wp_region_below (by kernel_rfl) (by kernel_rfl) ?_
              repeat (go_big_quiet_step (first
                | (go_at_call 40; exact calls_below (HC.out _))))
              refine wpQuiet_nil ?_
              rintro _ ⟨y, rfl⟩
              obtain ⟨W5, b5⟩ := y
              dsimp only
              clear e0 e8 HC HZ
              have hR5 := hR4.keep b5
              have hF5 : Frm (bkr d g1 g2 g3) w W5 := hF4.trans (frm_below b5)
              have hB5 := hB4.keep b5
              clear hB4 hR4 hF4
              by_cases h3 : R.n < 2 * N
              · have HN : Hid (pmB R (j : Int) x = true ∧ pmS R (j : Int) x a l = tellR { R with pr := pmP R (j : Int) a l }) := pm_all HK.out (by omega)
                have t1 : ¬ 2 * N ≤ R.n := by omega
                have t2 : ¬ (2 * (N : Int) ≤ (R.n : Int)) := by omega
                obtain ⟨os5, hos5, hrg5, -⟩ := hR5.reg
                have hH5 := hR5.has
                have hsz5 := hR5.ok.sz
                have hold5 := hR5.old
                have hokT := hR5.ok.tell
                dsimp only at hrg5 hH5 hsz5 J1 J2 J3
                obtain ⟨P, hP⟩ : ∃ P, P = pmP R (j : Int) a l := ⟨_, rfl⟩
                rw [← hP] at hrg5 hH5 hsz5 hpl2
                have hol5 : os5.length = R.n := by rw [hrg5.len]; exact hpl2
                have c0 : ∀ V, Below W5.heap.size W5 V → V.cell? ⟨d, 0, none⟩ = some (.int .i64 (R.n : Int)) := hB5.cellV (i := 0) rfl
                have c8 : ∀ V, Below W5.heap.size W5 V → V.cell? ⟨d, 8, none⟩ = some (.slice (some ⟨g1, 0, none⟩) R.n R.n) := hB5.cellV (i := 8) rfl
                have c9 : ∀ V, Below W5.heap.size W5 V → V.cell? ⟨d, 9, none⟩ = some (.slice (some ⟨g2, 0, none⟩) R.n R.n) := hB5.cellV (i := 9) rfl
                clear t1 t2
                go_upto_region 7 with fail
                go_wp2_with fail
                go_loopw [9, 10] (fun lv iv wr => ∃ (jj : Nat) (os' : List RrD), jj ≤ R.n ∧ iv = .int .i64 (jj : Int) ∧ Ro wr W5.heap.size lv os' ∧ (∀ r ∈ os', Is W0 r.v r.l) ∧ os'.map keyR = (P.take jj).filterMap id ∧ os'.length ≤ jj ∧ Below W5.heap.size W5 wr) (fun lv iv _ => R.n - (intOf iv).toNat)
                case atStart => exact ⟨0, [], by omega, rfl, ⟨rfl, .inl ⟨rfl, rfl⟩⟩, (fun r hr => by simp at hr), rfl, Nat.le_refl _, Below.refl _ _⟩
                case round =>
                  obtain ⟨jj, os', hjj, rfl, hO, hI, hKy, hol', hbr⟩ := hrel
                  by_cases cj : jj = R.n
                  · obtain ⟨qo, co, eo⟩ := ro_form hO
                    subst eo
                    have HK2 : Hid (os'.map keyR = P.filterMap id) := by show _ = _; rw [hKy, cj, ← hpl2, List.take_length]
                    have hz : ∀ r ∈ os', r.l.length ≤ 17592186043904 := by
                      intro r hr
                      have h1 : keyR r ∈ P.filterMap id := by rw [← HK2.out]; exact List.mem_map_of_mem hr
                      rw [List.mem_filterMap] at h1
                      obtain ⟨y, hy, hy2⟩ := h1
                      simp only [id] at hy2
                      subst hy2
                      have := hsz5 _ _ hy
                      omega
                    have holdr := ab_trans' hold5 hbr
                    obtain ⟨go, hRow⟩ := ro_rowS hO (fun r hr => (hI r hr).keep holdr) hz
                    have hnw : nwL os' = nwV P := nw_keys HK2.out
                    generalize os'.length = no at hRow
                    have i9 : ¬ (jj : Int) < (R.n : Int) := by omega
                    have i10 : ¬ jj < R.n := by omega
                    clear hO hKy hz hol' cj
                    go_upto_region 13 with fail
                    have D : ∀ W, Below wr.heap.size wr W → Blk W d (rfC { R with pr := pmP R (j : Int) a l } vo4 vn4 vv4 g1 g2 g3) 92 := fun W hb => hB5.keep (ab_trans hbr hb)
                    refine wp_region_held_drew (S := fun w' => Below wr.heap.size wr w') (by kernel_rfl) (ab_drew (Below.refl _ _)) (fun hHeld => ?_)
                    refine takeH (i := 0) (some 97) rfl rfl (by kernel_rfl) (by kernel_rfl) (by kernel_rfl) (fun _ _ _ h => h) (by rfl) (fun w hSw => by (try dsimp only at hSw); go_simp; try rfl) hHeld ?_
                    go_frame
                    refine takeH (i := 1) (some 98) rfl rfl (by kernel_rfl) (by kernel_rfl) (by kernel_rfl) (fun _ _ _ h => h) (by rfl) (fun w hSw => by (try dsimp only at hSw); go_simp; try rfl) hHeld ?_
                    go_frame
                    refine takeH (i := 2) (some 99) rfl rfl (by kernel_rfl) (by kernel_rfl) (by kernel_rfl) (fun _ _ _ h => h) (by rfl) (fun w hSw => by (try dsimp only at hSw); go_simp; try rfl) hHeld ?_
                    go_frame
                    refine takeH (i := 3) (some 100) rfl rfl (by kernel_rfl) (by kernel_rfl) (by kernel_rfl) (fun _ _ _ h => h) (by rfl) (fun w hSw => by (try dsimp only at hSw); have hh := D _ hSw; have y4 := hh.at (i := 4) rfl; have y5 := hh.at (i := 5) rfl; have y6 := hh.at (i := 6) rfl; go_simp; try rfl) hHeld ?_
                    go_frame
                    refine takeH (i := 4) (some 101) rfl rfl (by kernel_rfl) (by kernel_rfl) (by kernel_rfl) (fun _ _ _ h => h) (by rfl) (fun w hSw => by (try dsimp only at hSw); go_simp; try rfl) hHeld ?_
                    go_frame
                    refine wpAnyH_ready (rs := [5]) (by kernel_rfl) (by simp) (AllReadyH.cons rfl (fun K hK => ?_) AllReadyH.nil)
                    go_simp
                    refine (newestR_in W0 qo no co go 0 os' _ (hRow.keep hHeld) hI).mono ?_
                    rintro e W6 ⟨v6, rfl, hO6, b6⟩
                    show K _ _
                    rw [hnw] at hO6
                    have hb6 := ab_trans hHeld b6
                    refine hK.out _ _ hb6 (fun hHeld => ?_)
                    clear hK K
                    refine wpAnyH_ready (rs := [6]) (by kernel_rfl) (by simp) (AllReadyH.cons rfl (fun K hK => ?_) AllReadyH.nil)
                    go_simp
                    refine (gdoR_in W0 R.c vo4 vn4 v6 (nwV P) W6 (ab_trans' holdr hb6) J1 J2 hO6).mono ?_
                    rintro e W7 ⟨⟨q7, n7, c7, rfl, hO7, hn7⟩, b7⟩
                    show K _ _
                    have hb7 := ab_trans hb6 b7
                    refine hK.out _ _ hb7 (fun hHeld => ?_)
                    clear hK K
                    refine takeH (i := 7) (some 96) rfl rfl (by kernel_rfl) (by kernel_rfl) (by kernel_rfl) (fun _ _ _ h => h) (by rfl) (fun w hSw => by (try dsimp only at hSw); go_simp; try rfl) hHeld ?_
                    go_frame
                    refine takeH (i := 8) (some 104) rfl rfl (by kernel_rfl) (by kernel_rfl) (by kernel_rfl) (fun _ _ _ h => h) (by rfl) (fun w hSw => by (try dsimp only at hSw); go_simp; try rfl) hHeld ?_
                    go_frame
                    refine takeH (i := 9) (some 105) rfl rfl (by kernel_rfl) (by kernel_rfl) (by kernel_rfl) (fun _ _ _ h => h) (by rfl) (fun w hSw => by (try dsimp only at hSw); go_simp; try rfl) hHeld ?_
                    go_frame
                    refine takeH (i := 10) (some 11) rfl rfl (by kernel_rfl) (by kernel_rfl) (by kernel_rfl) (fun _ _ _ h => h) (by rfl) (fun w hSw => by (try dsimp only at hSw); go_simp; try rfl) hHeld ?_
                    go_frame
                    refine takeH (i := 11) (some 12) rfl rfl (by kernel_rfl) (by kernel_rfl) (by kernel_rfl) (fun _ _ _ h => h) (by rfl) (fun w hSw => by (try dsimp only at hSw); go_simp; try rfl) hHeld ?_
                    go_frame
                    refine wpAnyH_done (by kernel_rfl) ?_ _
                    have hB7 := D _ hb7
                    have hR7 := hR5.keep (ab_trans hbr hb7)
                    have hF7 : Frm (bkr d g1 g2 g3) w W7 := hF5.trans (frm_below (ab_trans hbr hb7))
                    have d11 : W7.cell? ⟨d, 11, none⟩ = some vv4 := hB7.at (i := 11) rfl
                    have d12 : W7.cell? ⟨d, 12, none⟩ = some (.int .i64 (R.e : Int)) := hB7.at (i := 12) rfl
                    have d7 : W7.cell? ⟨d, 7, none⟩ = some (.int .i64 (R.st : Int)) := hB7.at (i := 7) rfl
                    have f11 := hB7.frozen 11
                    have f12 := hB7.frozen 12
                    have f7 := hB7.frozen 7
                    go_wp2_with fail
                    go_ret
                    rw [HN.out.1, HN.out.2]
                    have C8 := ((chg_set W7 d 11 (.slice q7 n7 c7)).trans (chg_set _ d 12 (.int .i64 ((doN R.c (nwV P) : Nat) : Int)))).trans (chg_set _ d 7 (.int .i64 2))
                    subst hP
                    obtain ⟨hR8, F8⟩ := hR7.turn (R' := tellR { R with pr := pmP R (j : Int) a l }) C8 (((hB7.set 11 _).set 12 _).set 7 _) J1 J2 hO7 rfl rfl hokT (by show 1 ≤ 2; omega)
                    exact ⟨rfl, hR8, hF7.trans F8⟩
                  · have hjn2 : jj < R.n := by omega
                    have hji2 : (jj : Int) < (R.n : Int) := by omega
                    have hH5w := hH5.keep hbr
                    cases hx5 : P[jj]? with
                    | none => rw [List.getElem?_eq_none_iff] at hx5; omega
                    | some y =>
                      have z1 : wr.cell? ⟨g1, jj, none⟩ = some (.bool y.isSome) := hH5w.at (bls_at (has_at hx5))
                      cases y with
                      | none =>
                        have z1 : wr.cell? ⟨g1, jj, none⟩ = some (.bool false) := z1
                        have HK2 : Hid (os'.map keyR = (P.take (jj + 1)).filterMap id) := by show _ = _; rw [pr_take_no hx5, hKy]
                        clear hx5 hKy hH5w
                        go_wp2_with fail
                        exact ⟨⟨jj + 1, os', by omega, rfl, hO, hI, HK2.out, by omega, hbr⟩, by simp only [intOf]; omega⟩
                      | some y =>
                        obtain ⟨a5, l5⟩ := y
                        have z1 : wr.cell? ⟨g1, jj, none⟩ = some (.bool true) := z1
                        obtain ⟨⟨rp, ra, rv, rl⟩, hr5, hk5, hi5⟩ := hrg5.at' jj a5 l5 hx5
                        have hk5' : ra = a5 ∧ rl = l5 := by unfold keyR at hk5; injection hk5 with e1 e2; exact ⟨e1, e2⟩
                        obtain ⟨rfl, rfl⟩ := hk5'
                        dsimp only at hi5
                        obtain ⟨qr, cr, er⟩ := hi5.form
                        subst er
                        have HK2 : Hid ((os' ++ [(⟨rp, ra, .slice qr rl.length cr, rl⟩ : RrD)]).map keyR = (P.take (jj + 1)).filterMap id) := by show _ = _; rw [pr_take_yes hx5, ← hKy, List.map_append]; rfl
                        obtain ⟨nr, hnr⟩ : ∃ n, rl.length = n := ⟨_, rfl⟩
                        rw [hnr] at hi5 hr5 HK2
                        have hosw := hos5.keep hbr
                        have u0 : wr.cell? ⟨g2, jj * 7, none⟩ = some (.int .i64 rp.n) := hosw.at (by rw [List.getElem?_toArray]; exact flR_at (i := 0) hr5 (by omega))
                        have u1 : wr.cell? ⟨g2, jj * 7 + 1, none⟩ = some (.int .i64 rp.nd) := hosw.at (by rw [List.getElem?_toArray]; exact flR_at (i := 1) hr5 (by omega))
                        have u2 : wr.cell? ⟨g2, jj * 7 + 2, none⟩ = some (.int .i64 rp.lf) := hosw.at (by rw [List.getElem?_toArray]; exact flR_at (i := 2) hr5 (by omega))
                        have u3 : wr.cell? ⟨g2, jj * 7 + 3, none⟩ = some (.int .i64 ra.n) := hosw.at (by rw [List.getElem?_toArray]; exact flR_at (i := 3) hr5 (by omega))
                        have u4 : wr.cell? ⟨g2, jj * 7 + 4, none⟩ = some (.int .i64 ra.nd) := hosw.at (by rw [List.getElem?_toArray]; exact flR_at (i := 4) hr5 (by omega))
                        have u5 : wr.cell? ⟨g2, jj * 7 + 5, none⟩ = some (.int .i64 ra.lf) := hosw.at (by rw [List.getElem?_toArray]; exact flR_at (i := 5) hr5 (by omega))
                        have u6 : wr.cell? ⟨g2, jj * 7 + 6, none⟩ = some (.slice qr nr cr) := hosw.at (by rw [List.getElem?_toArray]; exact flR_at (i := 6) hr5 (by omega))
                        clear hx5 hKy hH5w hosw hr5
                        go_wp2_with (first
                          | (refine bs_r1 rfl rfl rp ra qr nr cr (by simp only [List.map_toArray, List.map_cons, List.map_nil]; rfl) ?_; intro W6 hB6 b6; go_frame)
                          | (have mk := b6; clear mk; refine app_r W5 rfl rfl rl rfl (hO.keep b6) rfl hB6 (by omega) (ab_trans hbr b6) ?_; intro v7 W7 hO7 b7 g7; go_frame))
                        have hIA : ∀ r ∈ os' ++ [(⟨rp, ra, .slice qr nr cr, rl⟩ : RrD)], Is W0 r.v r.l := by
                          intro r hr
                          rcases List.mem_append.1 hr with hr | hr
                          · exact hI r hr
                          · have : r = ⟨rp, ra, .slice qr nr cr, rl⟩ := by simpa using hr
                            subst this
                            exact hi5
                        exact ⟨⟨jj + 1, _, by omega, rfl, hO7, hIA, HK2.out, by simp; omega, b7⟩, by simp only [intOf]; omega⟩
              · have HN : Hid (pmB R (j : Int) x = false ∧ pmS R (j : Int) x a l = { R with pr := pmP R (j : Int) a l }) := pm_few HK.out (by omega)
                have t1 : 2 * N ≤ R.n := by omega
                have t2 : 2 * (N : Int) ≤ (R.n : Int) := by omega
                go_wp2_with fail
                go_ret
                rw [HN.out.1, HN.out.2]
                exact ⟨rfl, hR5, hF5⟩
        · have j1 : ((R.st : Int) != 1) = true := by simp; omega
          have HN : Hid (pmK R k x = false) := by show _ = _; unfold pmK; rw [decide_eq_false h2]; simp
          repeat (go_big_quiet_step (fail))
          refine wpQuiet_nil ?_
          rintro _ ⟨y, rfl⟩
          obtain ⟨W2, hb⟩ := y
          dsimp only
          clear e0 e1 e2 e3 e7 e8 x0 x1 x2 HZ HE
          go_wp2_with fail
          go_ret
          exact dre_no h (ab_trans hw hb) (pm_no (a := a) (l := l) HN.out).1 (pm_no HN.out).2
    · have i2 : (R.n : Int) ≤ k := by omega
      have HH : Hid (hearB R k x = false) := by show _ = _; unfold hearB; rw [decide_eq_false k2]; simp
      repeat (go_big_quiet_step (fail))
      refine wpQuiet_nil ?_
      rintro _ ⟨y, rfl⟩
      obtain ⟨W2, hb⟩ := y
      dsimp only
      clear e0 e1 e2 e3 e7 e8 x0 x1 x2 HZ HE
      go_wp2_with fail
      go_ret
      exact dre_no h (ab_trans hw hb) (pm_no (a := a) (l := l) (pmK_deaf HH.out)).1 (pm_no (pmK_deaf HH.out)).2
  · have i1 : k < 0 := by omega
    have HH : Hid (hearB R k x = false) := by show _ = _; unfold hearB; rw [decide_eq_false k1]; simp
    repeat (go_big_quiet_step (fail))
    refine wpQuiet_nil ?_
    rintro _ ⟨y, rfl⟩
    obtain ⟨W2, hb⟩ := y
    dsimp only
    clear e0 e1 e2 e3 e7 e8 x0 x1 x2 HZ HE
    go_wp2_with fail
    go_ret
    exact dre_no h (ab_trans hw hb) (pm_no (a := a) (l := l) (pmK_deaf HH.out)).1 (pm_no (pmK_deaf HH.out)).2
end Go.Proofs.Ytpcejajidhfmpaa
namespace Go.Proofs.Ytpcejajidhfmpaa
open Go.RowKit
set_option linter.unusedVariables false
set_option maxRecDepth 100000
variable {G : Nat → Prop}

set_option maxHeartbeats 4000000 in
theorem rsame11_any (W0 : World) (B b mp ma : Nat) (B2 d g1 g2 g3 : Nat) (R : Rd) (w : World) (h : Rn G w B b mp ma R) (hD : Drn W0 w B2 d g1 g2 g3 R) :
    Calls Try.prog 29 #[rptr b, dptr d] w fun e w' => e = .returned (.bool true) ∧ Below w.heap.size w w' := by
  have hok := h.ok
  have hvz := hok.vz
  obtain ⟨vv, d10, d11, iv⟩ := rn_val h
  obtain ⟨xo, xn, xv, hBd, -, -, I3⟩ := hD.mem
  have c1 : ∀ V, Below w.heap.size w V → V.cell? ⟨d, 1, none⟩ = some (.int .i64 R.b.n) := hBd.cellV (i := 1) rfl
  have c2 : ∀ V, Below w.heap.size w V → V.cell? ⟨d, 2, none⟩ = some (.int .i64 R.b.nd) := hBd.cellV (i := 2) rfl
  have c3 : ∀ V, Below w.heap.size w V → V.cell? ⟨d, 3, none⟩ = some (.int .i64 R.b.lf) := hBd.cellV (i := 3) rfl
  have c7 : ∀ V, Below w.heap.size w V → V.cell? ⟨d, 7, none⟩ = some (.int .i64 (R.st : Int)) := hBd.cellV (i := 7) rfl
  have c11 : ∀ V, Below w.heap.size w V → V.cell? ⟨d, 11, none⟩ = some xv := hBd.cellV (i := 11) rfl
  have c12 : ∀ V, Below w.heap.size w V → V.cell? ⟨d, 12, none⟩ = some (.int .i64 (R.e : Int)) := hBd.cellV (i := 12) rfl
  have c13 : ∀ V, Below w.heap.size w V → V.cell? ⟨d, 13, none⟩ = some (.int .i64 R.mt.n) := hBd.cellV (i := 13) rfl
  have c14 : ∀ V, Below w.heap.size w V → V.cell? ⟨d, 14, none⟩ = some (.int .i64 R.mt.nd) := hBd.cellV (i := 14) rfl
  have c15 : ∀ V, Below w.heap.size w V → V.cell? ⟨d, 15, none⟩ = some (.int .i64 R.mt.lf) := hBd.cellV (i := 15) rfl
  have hold := hD.old
  have hb0 := Below.refl w.heap.size w
  have xs : Is w xv R.v := I3.keep hold
  go_enter Try.func29, Try.ntmps29
  go_upto_region 1 with fail
  go_cut [5, 6] from 9 to 13 (fun v e wc => Below w.heap.size w wc ∧ ((R.st ≠ 3 ∧ v = .slice none 0 0 ∧ e = .nilIface) ∨ (R.st = 3 ∧ ∃ q n c, v = .slice q n c ∧ Is wc (.slice q n c) R.v ∧ e = errV R.e)))
  case first =>
    by_cases hs : R.st = 3
    · go_wp2_with fail
      refine (rresult_yes b vv (errV R.e) R.v w (rn_stage h hs) d10 d11 iv.is (by omega)).mono ?_
      rintro e W1 ⟨q, n, c, rfl, hO, hn, b1⟩
      go_wp2_with fail
      go_meet
      case rel => exact ⟨b1, .inr ⟨hs, q, n, c, rfl, hO.is, rfl⟩⟩
    · go_wp2_with fail
      refine (rresult_no b R.st w (rn_stage h rfl) hs).mono ?_
      rintro e W1 ⟨rfl, hW⟩
      subst W1
      go_wp2_with fail
      go_meet
      case rel => exact ⟨hb0, .inl ⟨hs, rfl, rfl⟩⟩
  case rest =>
    obtain ⟨bw, hcase⟩ := hcut
    obtain ⟨Wa, hWa⟩ : ∃ W, W = wc := ⟨_, rfl⟩
    subst hWa
    have xsw := xs.keep bw
    have hRw := h.keep bw
    have k7 : ∀ y : Cls Wa, y.val.cell? ⟨d, 7, none⟩ = some (.int .i64 (R.st : Int)) := fun y => c7 _ (ab_trans bw y.prop)
    have k11 : ∀ y : Cls Wa, y.val.cell? ⟨d, 11, none⟩ = some xv := fun y => c11 _ (ab_trans bw y.prop)
    have k12 : ∀ y : Cls Wa, y.val.cell? ⟨d, 12, none⟩ = some (.int .i64 (R.e : Int)) := fun y => c12 _ (ab_trans bw y.prop)
    have HZ := cls_some Wa
    have E1 := neq00
    go_upto_region 2 with fail
    go_cut [52] from 14 to 51 (fun s wd => s = .bool false ∧ Below Wa.heap.size Wa wd)
    case first =>
      rcases hcase with ⟨hs, rfl, rfl⟩ | ⟨hs, q, n, c, rfl, hI, rfl⟩
      · have z1 : ((R.st : Int) != 3) = true := by simp; omega
        have z2 : ((R.st : Int) == 3) = false := by simp; omega
        refine wp_region_below (by kernel_rfl) (by kernel_rfl) ?_
        repeat (go_big_quiet_step (fail))
        refine wpQuiet_nil ?_
        rintro _ ⟨y, rfl⟩
        obtain ⟨W2, hb⟩ := y
        dsimp only
        clear k7 k11 k12 HZ E1
        go_wp2_with fail
        go_meet
        case rel => exact ⟨rfl, hb⟩
      · have z1 : ((R.st : Int) != 3) = false := by rw [hs]; rfl
        have z2 : ((R.st : Int) == 3) = true := by rw [hs]; rfl
        have z3 : ((R.e : Int) != (R.e : Int)) = false := by simp
        have HC : Hid (∀ y : Cls Wa, Calls Try.prog 18 #[.slice q n c, xv] y.val fun e w' => e = .returned (.bool true) ∧ Below y.val.heap.size y.val w') := fun y => by
          have := gints_any _ xv R.v R.v y.val (hI.keep y.prop) (xsw.keep y.prop) (by omega) (by omega)
          rw [decide_eq_true (rfl : R.v = R.v)] at this
          exact this
        clear hs
        refine wp_region_below (by kernel_rfl) (by kernel_rfl) ?_
        repeat (go_big_quiet_step (first
          | (go_at_call 18; exact calls_below (HC.out _))
          | (go_at_call 25; exact calls_same (gnum_any R.e _))))
        refine wpQuiet_nil ?_
        rintro _ ⟨y, rfl⟩
        obtain ⟨W2, hb⟩ := y
        dsimp only
        clear k7 k11 k12 HZ E1
        go_wp2_with fail
        go_meet
        case rel => exact ⟨rfl, hb⟩
    case rest =>
      obtain ⟨rfl, bd⟩ := hcut
      clear hcase k7 k11 k12 HZ E1
      have hbd := ab_trans bw bd
      have hRd := hRw.keep bd
      obtain ⟨uv, u10, -, iu⟩ := rn_val hRd
      go_wp2_with fail
      refine (rvalue_any b uv R.v _ u10 iu.is (by omega)).mono ?_
      rintro e W3 ⟨v3, rfl, hO3, b3⟩
      obtain ⟨q3, cp3, e3⟩ := hO3.is.form
      obtain ⟨n3, hn3⟩ : ∃ n, R.v.length = n := ⟨_, rfl⟩
      rw [hn3] at e3
      subst e3
      have hb3 := ab_trans hbd b3
      have hR3 := hRd.keep b3
      go_wp2_with fail
      refine (gints_any _ xv R.v R.v _ hO3.is (xs.keep hb3) (by omega) (by omega)).mono ?_
      rintro e W4 ⟨rfl, b4⟩
      rw [decide_eq_true (rfl : R.v = R.v)]
      have hb4 := ab_trans hb3 b4
      have hR4 := hR3.keep b4
      have O4 := hO3.keep b4
      unfold Io at O4
      rw [hn3] at O4
      have zw : w.heap.size ≤ wc.heap.size := hbd.size
      go_wp2_with fail
      go_loopw [64] (fun i wr => ∃ (j : Nat) (ys : List Int), j ≤ n3 ∧ i = .int .i64 (j : Int) ∧ wr.ownsRow wc.heap.size 3 1 (.slice q3 n3 cp3) n3 (ints ys) ∧ Onl (.slice q3 n3 cp3) W4 wr) (fun i _ => n3 - (intOf i).toNat)
      case atStart => exact ⟨0, R.v, by omega, rfl, O4, Onl.refl _ _⟩
      case round =>
        obtain ⟨j, ys, hj, rfl, ho, hk1⟩ := hrel
        by_cases cj : j = n3
        · subst cj
          have b5 : Below wc.heap.size W4 wr := hk1.below (fun g hg => by have := (World.ownsRow.lt O4 g hg).1; omega)
          have bw5 : Below w.heap.size w wr := hb4.trans (b5.mono zw)
          have hR5 : Rn G wr B b mp ma R := hRd.keep ((ab_trans b3 b4).trans b5)
          obtain ⟨-, r1, r2, r3, r7, -, -⟩ := hear_cells hR5
          obtain ⟨vo5, vn5, vv5, hB5, -⟩ := hR5.mem
          have r12 : ∀ V, Below wr.heap.size wr V → V.cell? ⟨b, 12, none⟩ = some (.int .i64 R.mt.n) := hB5.cellV (i := 12) rfl
          have r13 : ∀ V, Below wr.heap.size wr V → V.cell? ⟨b, 13, none⟩ = some (.int .i64 R.mt.nd) := hB5.cellV (i := 13) rfl
          have r14 : ∀ V, Below wr.heap.size wr V → V.cell? ⟨b, 14, none⟩ = some (.int .i64 R.mt.lf) := hB5.cellV (i := 14) rfl
          have k1 : ∀ y : Cls wr, y.val.cell? ⟨d, 1, none⟩ = some (.int .i64 R.b.n) := fun y => c1 _ (ab_trans bw5 y.prop)
          have k2 : ∀ y : Cls wr, y.val.cell? ⟨d, 2, none⟩ = some (.int .i64 R.b.nd) := fun y => c2 _ (ab_trans bw5 y.prop)
          have k3 : ∀ y : Cls wr, y.val.cell? ⟨d, 3, none⟩ = some (.int .i64 R.b.lf) := fun y => c3 _ (ab_trans bw5 y.prop)
          have k7 : ∀ y : Cls wr, y.val.cell? ⟨d, 7, none⟩ = some (.int .i64 (R.st : Int)) := fun y => c7 _ (ab_trans bw5 y.prop)
          have k13 : ∀ y : Cls wr, y.val.cell? ⟨d, 13, none⟩ = some (.int .i64 R.mt.n) := fun y => c13 _ (ab_trans bw5 y.prop)
          have k14 : ∀ y : Cls wr, y.val.cell? ⟨d, 14, none⟩ = some (.int .i64 R.mt.nd) := fun y => c14 _ (ab_trans bw5 y.prop)
          have k15 : ∀ y : Cls wr, y.val.cell? ⟨d, 15, none⟩ = some (.int .i64 R.mt.lf) := fun y => c15 _ (ab_trans bw5 y.prop)
          have HZ := cls_some wr
          have z3 : ((R.st : Int) == (R.st : Int)) = true := by simp
          have HE1 : ∀ w, _ := eqBt R.b R.b
          rw [eqB_iff.2 (rfl : R.b = R.b)] at HE1
          have HE2 : ∀ w, _ := eqBt R.mt R.mt
          rw [eqB_iff.2 (rfl : R.mt = R.mt)] at HE2
          have H1 : Hid (∀ y : Cls wr, Calls Try.prog 12 #[rptr b] y.val fun e w' => e = .returned (.int .i64 (R.st : Int)) ∧ w' = y.val) := fun y => rstage_any b _ _ (r7 _ y.prop)
          have H2 : Hid (∀ y : Cls wr, Calls Try.prog 15 #[rptr b] y.val fun e w' => e = .returned (bV R.b) ∧ Below y.val.heap.size y.val w') := fun y => rballot_any b R.b _ (r1 _ y.prop) (r2 _ y.prop) (r3 _ y.prop)
          have H3 : Hid (∀ y : Cls wr, Calls Try.prog 22 #[rptr b] y.val fun e w' => e = .returned (bV R.mt) ∧ Below y.val.heap.size y.val w') := fun y => rmet_any b R.mt _ (r12 _ y.prop) (r13 _ y.prop) (r14 _ y.prop)
          clear hB5 ho hk1 O4
          go_upto_region 12 with fail
          refine wp_region_below (by kernel_rfl) (by kernel_rfl) ?_
          repeat (go_big_quiet_step (first
            | (go_at_call 12; exact calls_same (H1.out _))
            | (go_at_call 15; exact calls_below (H2.out _))
            | (go_at_call 22; exact calls_below (H3.out _))))
          refine wpQuiet_nil ?_
          rintro _ ⟨y, rfl⟩
          obtain ⟨W6, b6⟩ := y
          dsimp only
          clear k1 k2 k3 k7 k13 k14 k15 HZ HE1 HE2
          go_wp2_with fail
          go_ret
          exact ⟨rfl, ab_trans bw5 b6⟩
        · have hjn : j < n3 := by omega
          have hji : (j : Int) < (n3 : Int) := by omega
          obtain ⟨gg, cap, ee, hbb, hgg, hcc, hmm, -⟩ := own_cells ho (fun e => by cases e; omega)
          cases ee
          have hys := owns_len ho
          have dd := ho.cellAt j (by omega)
          have fz := ho.frozenAt j
          obtain ⟨z, hzz⟩ : ∃ z, ys[j]? = some z := ⟨ys[j], List.getElem?_eq_getElem (by omega)⟩
          have hu9 : (ints ys)[j]? = some (.int .i64 z) := by rw [ints_at, hzz]; rfl
          rw [hu9] at dd
          go_wp2_with fail
          have hst := (ho.stored j (.int .i64 (-1))).1
          rw [show (ints ys).set j (.int .i64 (-1)) = ints (ys.set j (-1)) from by simp [ints, List.map_set]] at hst
          exact ⟨⟨j + 1, _, by omega, rfl, hst, hk1.set rfl _ _⟩, by simp only [intOf]; omega⟩
end Go.Proofs.Ytpcejajidhfmpaa
