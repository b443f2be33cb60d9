/-
  Refused; the calls of a round that is none.
-/
import Derived.Test.YtpcejajidhfmpaaRuC
namespace Go.Proofs.Ytpcejajidhfmpaa
open Go.RowKit
set_option linter.unusedVariables false
set_option maxRecDepth 100000

theorem rf_no {R : Rd} {k : Int} {x g : Bt} (h : rfB R k x g = false) : rfS R k x g = R := by unfold rfS; rw [h]; rfl
theorem rf_yes {R : Rd} {k : Int} {x g : Bt} (h : rfB R k x g = true) : rfS R k x g = { R with st := 4, mt := g } := by unfold rfS; rw [h]; rfl
/-- It is lost. -/
theorem Rn.lst {W : World} {B b mp ma : Nat} {R : Rd} (h : Rn W B b mp ma R) (g : Bt) {W' : World} (hW : W' = (((W.setCell ⟨b, 12, none⟩ (.int .i64 g.n)).setCell ⟨b, 13, none⟩ (.int .i64 g.nd)).setCell ⟨b, 14, none⟩ (.int .i64 g.lf)).setCell ⟨b, 7, none⟩ (.int .i64 4)) :
    Rn W' B b mp ma { R with st := 4, mt := g } ∧ Frm (bks b mp ma) W W' := by
  subst hW
  obtain ⟨vo, vn, vv, hB, i1, i2, i3⟩ := h.mem
  have F : Frm (fun k => k = b) W _ := frm_chg ((((chg_set W b 12 (.int .i64 g.n)).trans (chg_set _ b 13 (.int .i64 g.nd))).trans (chg_set _ b 14 (.int .i64 g.lf))).trans (chg_set _ b 7 (.int .i64 4))) rfl
  have hNo : NoI (fun k => k = b) W := fun k hk hi => by subst hk; have := hi.uniq hB.kindR; cases this
  exact ⟨⟨h.geb, h.gep, h.gea, h.ne, ⟨vo, vn, vv, (((hB.set 12 _).set 13 _).set 14 _).set 7 _, i1.frm F hNo, i2.frm F hNo, i3.frm F hNo⟩, h.pm.frm F h.neb.1 hNo, h.am.frm F h.neb.2, h.ok.lost 4 g⟩, F.mono fun k hk => .inl hk⟩
set_option maxHeartbeats 2000000 in
theorem refused_any (B b mp ma : Nat) (R : Rd) (k : Int) (x g : Bt) (w : World) (h : Rn w B b mp ma R) :
    Calls Try.prog 21 #[rptr b, .int .i64 k, bV x, bV g] w fun e w' => PmE w w' B b mp ma (rfS R k x g) (rfB R k x g) e := by
  go_enter Try.func21, Try.ntmps21
  go_upto_region 1 with fail
  obtain ⟨A, hAe, hX, hY, hw⟩ := blk2 w (bC x) (bC g) 23 23
  rw [hAe]
  clear hAe
  have hA := h.keep hw
  obtain ⟨vo, vn, vv, hB, -⟩ := hA.mem
  have e0 : ∀ x : Cls A, x.val.cell? ⟨b, 0, none⟩ = some (.int .i64 (R.n : Int)) := cls_cell (hB.at (i := 0) rfl) hB.lt
  have e1 : ∀ x : Cls A, x.val.cell? ⟨b, 1, none⟩ = some (.int .i64 R.b.n) := cls_cell (hB.at (i := 1) rfl) hB.lt
  have e2 : ∀ x : Cls A, x.val.cell? ⟨b, 2, none⟩ = some (.int .i64 R.b.nd) := cls_cell (hB.at (i := 2) rfl) hB.lt
  have e3 : ∀ x : Cls A, x.val.cell? ⟨b, 3, none⟩ = some (.int .i64 R.b.lf) := cls_cell (hB.at (i := 3) rfl) hB.lt
  have e7 : ∀ x : Cls A, x.val.cell? ⟨b, 7, none⟩ = some (.int .i64 (R.st : Int)) := cls_cell (hB.at (i := 7) rfl) hB.lt
  have x0 : ∀ y : Cls A, y.val.cell? ⟨w.heap.size, 0, none⟩ = some (.int .i64 x.n) := cls_cell (hX.at (i := 0) rfl) hX.lt
  have x1 : ∀ y : Cls A, y.val.cell? ⟨w.heap.size, 1, none⟩ = some (.int .i64 x.nd) := cls_cell (hX.at (i := 1) rfl) hX.lt
  have x2 : ∀ y : Cls A, y.val.cell? ⟨w.heap.size, 2, none⟩ = some (.int .i64 x.lf) := cls_cell (hX.at (i := 2) rfl) hX.lt
  have y0 : ∀ y : Cls A, y.val.cell? ⟨w.heap.size + 1, 0, none⟩ = some (.int .i64 g.n) := cls_cell (hY.at (i := 0) rfl) hY.lt
  have y1 : ∀ y : Cls A, y.val.cell? ⟨w.heap.size + 1, 1, none⟩ = some (.int .i64 g.nd) := cls_cell (hY.at (i := 1) rfl) hY.lt
  have y2 : ∀ y : Cls A, y.val.cell? ⟨w.heap.size + 1, 2, none⟩ = some (.int .i64 g.lf) := cls_cell (hY.at (i := 2) rfl) hY.lt
  have HC : Hid (∀ y : Cls A, Calls Try.prog 33 #[rptr b, .int .i64 k, bV x] y.val fun e w' => e = .returned (.bool (hearB R k x)) ∧ Below y.val.heap.size y.val w') := fun y => hears_any R b k x y.val (e0 y) (e1 y) (e2 y) (e3 y)
  have HZ := cls_some A
  clear hB
  refine wp_region_below (by kernel_rfl) (by kernel_rfl) ?_
  cases h1 : hearB R k x
  · have HN : Hid (rfB R k x g = false) := by show _ = _; unfold rfB; rw [h1]; rfl
    rw [h1] at HC
    repeat (go_big_quiet_step (first
      | (go_at_call 33; exact calls_below (HC.out _))))
    refine wpQuiet_nil ?_
    rintro _ ⟨y, rfl⟩
    obtain ⟨W2, hb⟩ := y
    dsimp only
    clear e0 e1 e2 e3 e7 x0 x1 x2 y0 y1 y2 HC HZ
    go_wp2_with fail
    go_ret
    exact pme_no h (ab_trans hw hb) HN.out (rf_no HN.out)
  · rw [h1] at HC
    have HF : Hid ((R.st = 1 ∨ R.st = 2) → rfB R k x g = lt3 R.b g) := by
      show _ → _
      intro h2
      unfold rfB
      rw [h1]
      rcases h2 with h2 | h2 <;> rw [h2] <;> simp
    by_cases h2 : R.st = 1
    · have z1 : ((R.st : Int) != 1) = false := by rw [h2]; rfl
      have HN : Hid (rfB R k x g = lt3 R.b g) := HF.out (.inl h2)
      clear h2
      repeat (go_big_quiet_step (first
        | (go_at_call 33; exact calls_below (HC.out _))
        | (go_at_call 36; exact calls_below (bless_any R.b g _))))
      refine wpQuiet_nil ?_
      rintro _ ⟨y, rfl⟩
      obtain ⟨W2, hb⟩ := y
      dsimp only
      clear e0 e1 e2 e3 e7 x0 x1 x2 y0 y1 y2 HC HZ
      have hR2 := hA.keep hb
      have hw2 := ab_trans hw hb
      have hY2 := hY.keep hb
      obtain ⟨u0, u1, u2⟩ := cells3 hY2
      have hbv := Below.refl W2.heap.size W2
      cases h3 : lt3 R.b g
      · rw [h3] at HN
        go_wp2_with fail
        go_ret
        exact pme_no h hw2 HN.out (rf_no HN.out)
      · rw [h3] at HN
        obtain ⟨vo, vn, vv, hB2, -⟩ := hR2.mem
        have d12 : W2.cell? ⟨b, 12, none⟩ = some (.int .i64 R.mt.n) := hB2.at (i := 12) rfl
        have d13 : W2.cell? ⟨b, 13, none⟩ = some (.int .i64 R.mt.nd) := hB2.at (i := 13) rfl
        have d14 : W2.cell? ⟨b, 14, none⟩ = some (.int .i64 R.mt.lf) := hB2.at (i := 14) rfl
        have d7 : W2.cell? ⟨b, 7, none⟩ = some (.int .i64 (R.st : Int)) := hB2.at (i := 7) rfl
        have f12 := hB2.frozen 12
        have f13 := hB2.frozen 13
        have f14 := hB2.frozen 14
        have f7 := hB2.frozen 7
        clear hB2
        go_wp2_with fail
        go_ret
        rw [rf_yes HN.out, HN.out]
        obtain ⟨hR5, F5⟩ := hR2.lst g rfl
        exact ⟨rfl, hR5, (frm_below hw2).trans F5⟩
    · have z1 : ((R.st : Int) != 1) = true := by simp; omega
      by_cases h4 : R.st = 2
      · have z2 : ((R.st : Int) != 2) = false := by rw [h4]; rfl
        have HN : Hid (rfB R k x g = lt3 R.b g) := HF.out (.inr h4)
        clear h2 h4
        repeat (go_big_quiet_step (first
          | (go_at_call 33; exact calls_below (HC.out _))
          | (go_at_call 36; exact calls_below (bless_any R.b g _))))
        refine wpQuiet_nil ?_
        rintro _ ⟨y, rfl⟩
        obtain ⟨W2, hb⟩ := y
        dsimp only
        clear e0 e1 e2 e3 e7 x0 x1 x2 y0 y1 y2 HC HZ
        have hR2 := hA.keep hb
        have hw2 := ab_trans hw hb
        have hY2 := hY.keep hb
        obtain ⟨u0, u1, u2⟩ := cells3 hY2
        have hbv := Below.refl W2.heap.size W2
        cases h3 : lt3 R.b g
        · rw [h3] at HN
          go_wp2_with fail
          go_ret
          exact pme_no h hw2 HN.out (rf_no HN.out)
        · rw [h3] at HN
          obtain ⟨vo, vn, vv, hB2, -⟩ := hR2.mem
          have d12 : W2.cell? ⟨b, 12, none⟩ = some (.int .i64 R.mt.n) := hB2.at (i := 12) rfl
          have d13 : W2.cell? ⟨b, 13, none⟩ = some (.int .i64 R.mt.nd) := hB2.at (i := 13) rfl
          have d14 : W2.cell? ⟨b, 14, none⟩ = some (.int .i64 R.mt.lf) := hB2.at (i := 14) rfl
          have d7 : W2.cell? ⟨b, 7, none⟩ = some (.int .i64 (R.st : Int)) := hB2.at (i := 7) rfl
          have f12 := hB2.frozen 12
          have f13 := hB2.frozen 13
          have f14 := hB2.frozen 14
          have f7 := hB2.frozen 7
          clear hB2
          go_wp2_with fail
          go_ret
          rw [rf_yes HN.out, HN.out]
          obtain ⟨hR5, F5⟩ := hR2.lst g rfl
          exact ⟨rfl, hR5, (frm_below hw2).trans F5⟩
      · have z2 : ((R.st : Int) != 2) = true := by simp; omega
        have HN : Hid (rfB R k x g = false) := by show _ = _; unfold rfB; rw [decide_eq_false h2, decide_eq_false h4]; simp
        clear h2 h4
        repeat (go_big_quiet_step (first
          | (go_at_call 33; exact calls_below (HC.out _))))
        refine wpQuiet_nil ?_
        rintro _ ⟨y, rfl⟩
        obtain ⟨W2, hb⟩ := y
        dsimp only
        clear e0 e1 e2 e3 e7 x0 x1 x2 y0 y1 y2 HC HZ
        go_wp2_with fail
        go_ret
        exact pme_no h (ab_trans hw hb) HN.out (rf_no HN.out)
set_option maxHeartbeats 1000000 in
theorem promise_nil (k : Int) (x p a : Bt) (q : Option Addr) (n c : Nat) (w : World) :
    Calls Try.prog 19 #[.pointer none, .int .i64 k, bV x, rV p a (.slice q n c)] w fun e w' => e = .returned (.bool false) ∧ Below w.heap.size w w' := by
  go_enter Try.func19, Try.ntmps19
  go_upto_region 1 with fail
  obtain ⟨A, hAe, hX, hY, hw⟩ := blk2 w (bC x) (rC p a (.slice q n c)) 23 61
  rw [hAe]
  clear hAe
  obtain ⟨x0, x1, x2⟩ := cells3 hX
  have hbv := Below.refl A.heap.size A
  go_wp2_with fail
  refine (hears_nil k x _).mono ?_
  rintro e W1 ⟨rfl, b1⟩
  go_wp2_with fail
  go_ret
  exact ⟨rfl, ab_trans hw b1⟩
set_option maxHeartbeats 1000000 in
theorem accepted_nil (k : Int) (x : Bt) (w : World) :
    Calls Try.prog 20 #[.pointer none, .int .i64 k, bV x] w fun e w' => e = .returned (.bool false) ∧ Below w.heap.size w w' := by
  go_enter Try.func20, Try.ntmps20
  go_upto_region 1 with fail
  obtain ⟨A, hAe, hX, hw⟩ := blk1 w (bC x) 23
  rw [hAe]
  clear hAe
  obtain ⟨x0, x1, x2⟩ := cells3 hX
  have hbv := Below.refl A.heap.size A
  go_wp2_with fail
  refine (hears_nil k x _).mono ?_
  rintro e W1 ⟨rfl, b1⟩
  go_wp2_with fail
  go_ret
  exact ⟨rfl, ab_trans hw b1⟩
set_option maxHeartbeats 1000000 in
theorem refused_nil (k : Int) (x g : Bt) (w : World) :
    Calls Try.prog 21 #[.pointer none, .int .i64 k, bV x, bV g] w fun e w' => e = .returned (.bool false) ∧ Below w.heap.size w w' := by
  go_enter Try.func21, Try.ntmps21
  go_upto_region 1 with fail
  obtain ⟨A, hAe, hX, hY, hw⟩ := blk2 w (bC x) (bC g) 23 23
  rw [hAe]
  clear hAe
  have x0 : ∀ y : Cls A, y.val.cell? ⟨w.heap.size, 0, none⟩ = some (.int .i64 x.n) := cls_cell (hX.at (i := 0) rfl) hX.lt
  have x1 : ∀ y : Cls A, y.val.cell? ⟨w.heap.size, 1, none⟩ = some (.int .i64 x.nd) := cls_cell (hX.at (i := 1) rfl) hX.lt
  have x2 : ∀ y : Cls A, y.val.cell? ⟨w.heap.size, 2, none⟩ = some (.int .i64 x.lf) := cls_cell (hX.at (i := 2) rfl) hX.lt
  have HZ := cls_some A
  refine wp_region_below (by kernel_rfl) (by kernel_rfl) ?_
  repeat (go_big_quiet_step (first
    | (go_at_call 33; exact calls_below (hears_nil k x _))))
  refine wpQuiet_nil ?_
  rintro _ ⟨y, rfl⟩
  obtain ⟨W2, hb⟩ := y
  dsimp only
  clear x0 x1 x2 HZ
  go_wp2_with fail
  go_ret
  exact ⟨rfl, ab_trans hw hb⟩
end Go.Proofs.Ytpcejajidhfmpaa
