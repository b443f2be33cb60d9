/-
  What was promised, as a slice; the value out of it.
-/
import Derived.Test.YtpcejajidhfmpaaRuA
namespace Go.Proofs.Ytpcejajidhfmpaa
open Go.RowKit
set_option linter.unusedVariables false
set_option maxRecDepth 100000

def IoA (W : World) (B : Nat) (os : List RrD) : Prop := ∀ r ∈ os, Io W B r.v r.l
theorem IoA.keep {W W' : World} {B : Nat} {os : List RrD} (h : IoA W B os) (hb : Below W.heap.size W W') : IoA W' B os := fun r hr => (h r hr).keep hb
theorem IoA.grown {W W' : World} {B b n e s : Nat} {u : Value} {xs : List Value} {os : List RrD} (h : IoA W B os) (hR : W.ownsRow b e s u n xs) (he : 3 ≠ e) (hg : W.grownBy W' u.ownBlock) : IoA W' B os :=
  fun r hr => (h r hr).kept hg (sep_ty (h r hr) hR he)
theorem ro_rowI {W : World} {base B n c : Nat} {q : Option Addr} {os : List RrD} (h : Ro W base (.slice q n c) os) (hc : IoA W B os) (hz : ∀ r ∈ os, r.l.length ≤ 17592186043904) : ∃ g, RrRow W q n c g 0 os := by
  rcases h.2 with ⟨h1, h2⟩ | ⟨g, cap, cur, h1, hb, hg, h3, h4, h5, h6⟩
  · cases h1
    have : os = [] := List.eq_nil_of_length_eq_zero h2
    subst this
    exact ⟨0, rfl, by omega, by omega, fun h => absurd h (by omega), fun h => absurd h (by omega), fun j x hx => by simp at hx⟩
  · cases h1
    have hcell : ∀ j u, (flR os)[j]? = some u → W.cell? ⟨g, j, none⟩ = some u := by
      intro j u hu
      have hj : j < (flR os).length := (List.getElem?_eq_some_iff.1 hu).1
      rw [cell_of_row W g j cur 61 (0, 0) hg]
      have hl := h.1
      rw [← h6, List.getElem?_take_of_lt (by omega)] at hu
      simpa using hu
    refine ⟨g, rfl, h3, by unfold maxLen at h4; omega, fun _ => rfl, fun _ => (Array.getElem?_eq_some_iff.1 hg).1, fun j x hx => ?_⟩
    rw [Nat.zero_add]
    have hm := List.mem_of_getElem? hx
    exact ⟨hcell _ _ (flR_at (i := 0) hx (by omega)), hcell _ _ (flR_at (i := 1) hx (by omega)), hcell _ _ (flR_at (i := 2) hx (by omega)), hcell _ _ (flR_at (i := 3) hx (by omega)), hcell _ _ (flR_at (i := 4) hx (by omega)), hcell _ _ (flR_at (i := 5) hx (by omega)), hcell _ _ (flR_at (i := 6) hx (by omega)), (hc x hm).is, hz x hm⟩
theorem pr_take_no {pr : List (Option (Bt × List Int))} {j : Nat} (h : pr[j]? = some none) : (pr.take (j + 1)).filterMap id = (pr.take j).filterMap id := by
  rw [List.take_add_one, List.filterMap_append, h]; simp
theorem pr_take_yes {pr : List (Option (Bt × List Int))} {j : Nat} {x : Bt × List Int} (h : pr[j]? = some (some x)) : (pr.take (j + 1)).filterMap id = (pr.take j).filterMap id ++ [x] := by
  rw [List.take_add_one, List.filterMap_append, h]; simp
set_option maxHeartbeats 1000000 in
theorem regs_any (B b mp ma : Nat) (R : Rd) (w : World) (h : Rn w B b mp ma R) :
    Calls Try.prog 47 #[rptr b] w fun e w' => ∃ q n c g os, e = .returned (.slice q n c) ∧ RrRow w' q n c g 0 os ∧ os.map keyR = R.pr.filterMap id ∧ Below w.heap.size w w' := by
  obtain ⟨vo, vn, vv, hB, -⟩ := h.mem
  have hP := h.pm
  have hok := h.ok
  obtain ⟨N, hN⟩ : ∃ N, R.n = N := ⟨_, rfl⟩
  have hpl := hok.pl
  have h5 := hok.n5
  rw [hN] at hpl h5
  have c0 : ∀ V, Below w.heap.size w V → V.cell? ⟨b, 0, none⟩ = some (.int .i64 (N : Int)) := by rw [← hN]; exact hB.cellV (i := 0) rfl
  have c8 : ∀ V, Below w.heap.size w V → V.cell? ⟨b, 8, none⟩ = some (.map (some mp)) := hB.cellV (i := 8) rfl
  have hb0 := Below.refl w.heap.size w
  clear hB h hN
  go_enter Try.func47, Try.ntmps47
  go_wp2_with fail
  go_loopw [3, 11] (fun lv iv wr => ∃ (j : Nat) (os : List RrD), j ≤ N ∧ iv = .int .i64 (j : Int) ∧ Ro wr w.heap.size lv os ∧ IoA wr B os ∧ os.map keyR = (R.pr.take j).filterMap id ∧ os.length ≤ j ∧ Below w.heap.size w wr) (fun lv iv _ => N - (intOf iv).toNat)
  case atStart => exact ⟨0, [], by omega, rfl, ⟨rfl, .inl ⟨rfl, rfl⟩⟩, (fun r hr => by simp at hr), rfl, Nat.le_refl _, hb0⟩
  case round =>
    obtain ⟨j, os, hj, rfl, hO, hI, hK, hol, hb⟩ := hrel
    by_cases cj : j = N
    · subst cj
      obtain ⟨q, c, e⟩ := ro_form hO
      subst e
      have HK : Hid (os.map keyR = R.pr.filterMap id) := by show _ = _; rw [hK, ← hpl, List.take_length]
      have hz : ∀ r ∈ os, r.l.length ≤ 17592186043904 := by
        intro r hr
        have h1 : keyR r ∈ R.pr.filterMap id := by rw [← HK.out]; exact List.mem_map_of_mem hr
        rw [List.mem_filterMap] at h1
        obtain ⟨x, hx, hx2⟩ := h1
        simp only [id] at hx2
        subst hx2
        have := hok.sz _ _ hx
        omega
      have HR : Hid (∃ g, RrRow wr q os.length c g 0 os) := ro_rowI hO hI hz
      clear hO hI hK hz hP
      go_wp2_with fail
      go_ret
      obtain ⟨g, hg⟩ := HR.out
      exact ⟨_, _, _, _, os, rfl, hg, HK.out, hb⟩
    · have hjn : j < N := by omega
      have hji : (j : Int) < (N : Int) := by omega
      have hPw := hP.frm (X := fun _ => False) (frm_below hb) (fun e => e) (noI_false w)
      have HP : Hid (Mp wr B mp R.pr) := hPw
      clear hP
      cases hx : R.pr[j]? with
      | none => rw [List.getElem?_eq_none_iff] at hx; omega
      | some x =>
        cases x with
        | none =>
          have hrun := HP.out.look_no hx (by omega)
          have HK : Hid (os.map keyR = (R.pr.take (j + 1)).filterMap id) := by show _ = _; rw [pr_take_no hx, hK]
          clear hx hK hPw
          go_wp2_with fail
          have hbn : Below wr.heap.size wr (wr.alloc (.cells (rC zB zB (.slice none 0 0)) 61)) := (Below.refl _ _).alloc (Nat.le_refl _) _
          exact ⟨⟨j + 1, os, by omega, rfl, hO.keep hbn, hI.keep hbn, HK.out, by omega, ab_trans hb hbn⟩, by simp only [intOf]; omega⟩
        | some x =>
          obtain ⟨a, l⟩ := x
          obtain ⟨q, c, hrun, hIo⟩ := HP.out.look_yes hx (by omega)
          have HK : Hid ((os ++ [(⟨zB, a, .slice q l.length c, l⟩ : RrD)]).map keyR = (R.pr.take (j + 1)).filterMap id) := by show _ = _; rw [pr_take_yes hx, ← hK, List.map_append]; rfl
          obtain ⟨n, hn⟩ : ∃ n, l.length = n := ⟨_, rfl⟩
          rw [hn] at hrun hIo HK
          clear hx hK hPw HP
          go_upto_region 7 with fail
          obtain ⟨V, hE, hR, hbV⟩ := blk1 wr (rC zB a (.slice q n c)) 61
          rw [show wr.alloc (.cells _ 61) = V from hE]
          obtain ⟨x0, x1, x2, x3, x4, x5, x6⟩ := cells7 hR
          have hbv := Below.refl V.heap.size V
          have hOV := hO.keep hbV
          have hIV := hI.keep hbV
          have hIo := hIo.keep hbV
          have hbw := ab_trans hb hbV
          clear hE hrun hO hI
          go_wp2_with (first
            | (refine bs_r1 rfl rfl zB a q n c (by simp only [List.map_toArray, List.map_cons, List.map_nil]; rfl) ?_; intro W1 hB1 b1; go_frame)
            | (have mk := b1; clear mk; refine app_r w rfl rfl l rfl (hOV.keep b1) rfl hB1 (by omega) (ab_trans hbw b1) ?_; intro v2 W2 hO2 b2 g2; go_frame))
          have hIA : IoA W2 B (os ++ [⟨zB, a, .slice q n c, l⟩]) := by
            intro r hr
            rcases List.mem_append.1 hr with hr | hr
            · exact ((hIV.keep b1).grown (hOV.keep b1) (by decide) g2) r hr
            · have : r = ⟨zB, a, .slice q n c, l⟩ := by simpa using hr
              subst this
              exact (hIo.keep b1).kept g2 (sep_ty (hIo.keep b1) (hOV.keep b1) (by decide))
          exact ⟨⟨j + 1, _, by omega, rfl, hO2, hIA, HK.out, by simp; omega, b2⟩, by simp only [intOf]; omega⟩
/-- An error into a cell of a block, at one operation. -/
theorem stE {o : Oper} {a : Act} {w : World} {K : Act → World → Prop} {Q : Exit → Act → World → Prop} (d : Option Tmp) (hd : o.dst = d) {x y : Operand} (ho : o.op = .store 55 x y) {b i : Nat} {vs : Array Value} {t : TypeId} {n : Nat} {old : Value} (hB : Blk w b vs t)
    (hx : a.eval x = .pointer (some ⟨b, i, none⟩)) (hy : a.eval y = errV n) (hi : vs[i]? = some old)
    (h : K (a.put d undef) (w.setCell ⟨b, i, none⟩ (errV n))) : o.wp Try.prog a w K Q := by
  subst hd
  have c := hB.at hi
  have f := hB.frozen i
  unfold Oper.wp execOp
  simp only [ho, hx, hy]
  unfold errV at h ⊢
  split at h
  · rename_i e
    rw [if_pos e]
    go_simp
    exact h
  · rename_i e
    rw [if_neg e]
    go_simp
    exact h
theorem nw_keys {os : List RrD} {pr : List (Option (Bt × List Int))} (h : os.map keyR = pr.filterMap id) : nwL os = nwV pr := by unfold nwL nwV; rw [h]
set_option maxHeartbeats 1000000 in
theorem tell_any (B b mp ma : Nat) (R : Rd) (w : World) (h : Rn w B b mp ma R) (hB : B ≤ w.heap.size) :
    Calls Try.prog 35 #[rptr b] w fun e w' => e = .returned (.tuple #[]) ∧ Rn w' B b mp ma (tellR R) ∧ Frm (bks b mp ma) w w' := by
  obtain ⟨vo, vn, vv, hBk, i1, i2, i3⟩ := h.mem
  have hok := h.ok
  obtain ⟨q1, c1, e1⟩ := i1.is.form
  obtain ⟨q2, c2, e2⟩ := i2.is.form
  subst e1
  subst e2
  obtain ⟨n1, hn1⟩ : ∃ n, R.c.o.length = n := ⟨_, rfl⟩
  obtain ⟨n2, hn2⟩ : ∃ n, R.c.n.length = n := ⟨_, rfl⟩
  rw [hn1] at hBk i1
  rw [hn2] at hBk i2
  have hbl := hBk.lt
  have d4 : w.cell? ⟨b, 4, none⟩ = some (.int .i64 R.c.k) := hBk.at (i := 4) rfl
  have d5 : w.cell? ⟨b, 5, none⟩ = some (.slice q1 n1 c1) := hBk.at (i := 5) rfl
  have d6 : w.cell? ⟨b, 6, none⟩ = some (.slice q2 n2 c2) := hBk.at (i := 6) rfl
  have hv1 : (nwV R.pr).length ≤ 1000 := nwV_le hok.sz
  have hv2 : (doL R.c (nwV R.pr)).length ≤ 1000 := doL_le hok.gd hv1 (by omega)
  go_enter Try.func35, Try.ntmps35
  go_upto_region 0 with fail
  refine wp_region_held_drew (S := fun w' => w'.cell? ⟨b, 4, none⟩ = some (.int .i64 R.c.k) ∧ w'.cell? ⟨b, 5, none⟩ = some (.slice q1 n1 c1) ∧ w'.cell? ⟨b, 6, none⟩ = some (.slice q2 n2 c2)) (by kernel_rfl) ⟨d4, d5, d6⟩ (fun hHeld => ?_)
  have hb0 : Below w.heap.size w w.drew := ab_drew (Below.refl _ _)
  generalize w.drew = W0 at *
  refine takeH (i := 0) (some 3) rfl rfl (by kernel_rfl) (by kernel_rfl) (by kernel_rfl) (fun _ _ _ h => h) (by rfl) (fun w hSw => by (try dsimp only at hSw); go_simp; try rfl) hHeld ?_
  go_frame
  refine takeH (i := 1) (some 4) rfl rfl (by kernel_rfl) (by kernel_rfl) (by kernel_rfl) (fun _ _ _ h => h) (by rfl) (fun w hSw => by (try dsimp only at hSw); go_simp; try rfl) hHeld ?_
  go_frame
  refine takeH (i := 2) (some 5) rfl rfl (by kernel_rfl) (by kernel_rfl) (by kernel_rfl) (fun _ _ _ h => h) (by rfl) (fun w hSw => by (try dsimp only at hSw); go_simp; try rfl) hHeld ?_
  go_frame
  refine takeH (i := 3) (some 6) rfl rfl (by kernel_rfl) (by kernel_rfl) (by kernel_rfl) (fun _ _ _ h => h) (by rfl) (fun w hSw => by (try dsimp only at hSw); go_simp; try rfl) hHeld ?_
  go_frame
  refine takeH (i := 4) (some 7) rfl rfl (by kernel_rfl) (by kernel_rfl) (by kernel_rfl) (fun _ _ _ h => h) (by rfl) (fun w hSw => by (try dsimp only at hSw); go_simp; try rfl) hHeld ?_
  go_frame
  refine takeH (i := 5) (some 8) rfl rfl (by kernel_rfl) (by kernel_rfl) (by kernel_rfl) (fun _ _ _ h => h) (by rfl) (fun w hSw => by (try dsimp only at hSw); have y0 := hSw.1; have y1 := hSw.2.1; have y2 := hSw.2.2; go_simp; try rfl) hHeld ?_
  go_frame
  refine takeH (i := 6) (some 9) rfl rfl (by kernel_rfl) (by kernel_rfl) (by kernel_rfl) (fun _ _ _ h => h) (by rfl) (fun w hSw => by (try dsimp only at hSw); go_simp; try rfl) hHeld ?_
  go_frame
  refine wpAnyH_ready (rs := [7]) (by kernel_rfl) (by simp) (AllReadyH.cons rfl (fun K hK => ?_) AllReadyH.nil)
  go_simp
  refine (regs_any B b mp ma R W0 (h.keep hb0)).mono ?_
  rintro e W1 ⟨q, n, c, g, os, rfl, hRow, hkeys, b1⟩
  show K _ _
  have hnw : nwL os = nwV R.pr := nw_keys hkeys
  have hb1 := ab_trans hb0 b1
  refine hK.out _ _ ⟨keep_cell hb1 d4 hbl, keep_cell hb1 d5 hbl, keep_cell hb1 d6 hbl⟩ (fun hHeld => ?_)
  clear hK K
  refine wpAnyH_ready (rs := [8]) (by kernel_rfl) (by simp) (AllReadyH.cons rfl (fun K hK => ?_) AllReadyH.nil)
  go_simp
  refine (newest_any q n c g 0 os W1 hRow (by rw [hnw]; omega)).mono ?_
  rintro e W2 ⟨v2, rfl, hO2, b2⟩
  show K _ _
  rw [hnw] at hO2
  have hb2 := ab_trans hb1 b2
  obtain ⟨qv, cv, ev⟩ := hO2.is.form
  generalize (nwV R.pr).length = nv at ev hv1
  subst ev
  refine hK.out _ _ ⟨keep_cell hb2 d4 hbl, keep_cell hb2 d5 hbl, keep_cell hb2 d6 hbl⟩ (fun hHeld => ?_)
  clear hK K
  refine wpAnyH_ready (rs := [9]) (by kernel_rfl) (by simp) (AllReadyH.cons rfl (fun K hK => ?_) AllReadyH.nil)
  go_simp
  refine (gdo_any R.c _ _ _ (nwV R.pr) W2 (i1.is.keep hb2) (i2.is.keep hb2) hO2.is (by have := nwV_le hok.sz; omega)).mono ?_
  rintro e W3 ⟨⟨q3, n3, c3, rfl, hO3, hn3⟩, b3⟩
  show K _ _
  have hb3 := ab_trans hb2 b3
  have zb3 := hb2.size
  refine hK.out _ _ ⟨keep_cell hb3 d4 hbl, keep_cell hb3 d5 hbl, keep_cell hb3 d6 hbl⟩ (fun hHeld => ?_)
  clear hK K
  have hB3 := hBk.keep hb3
  have hR3 := h.keep hb3
  have x4 : W3.cell? ⟨b, 4, none⟩ = some (.int .i64 R.c.k) := hHeld.1
  have x5 : W3.cell? ⟨b, 5, none⟩ = some (.slice q1 n1 c1) := hHeld.2.1
  have x6 : W3.cell? ⟨b, 6, none⟩ = some (.slice q2 n2 c2) := hHeld.2.2
  have x10 : W3.cell? ⟨b, 10, none⟩ = some vv := hB3.at (i := 10) rfl
  have x11 : W3.cell? ⟨b, 11, none⟩ = some (errV R.e) := hB3.at (i := 11) rfl
  have x7 : W3.cell? ⟨b, 7, none⟩ = some (.int .i64 (R.st : Int)) := hB3.at (i := 7) rfl
  have f10 := hB3.frozen 10
  have f11 := hB3.frozen 11
  have f7 := hB3.frozen 7
  refine takeH (i := 10) (some 2) rfl rfl (by kernel_rfl) (by kernel_rfl) (by kernel_rfl) (fun _ _ _ h => h) (by rfl) (fun w hSw => by (try dsimp only at hSw); go_simp; try rfl) hHeld ?_
  go_frame
  refine takeH (i := 11) (some 13) rfl rfl (by kernel_rfl) (by kernel_rfl) (by kernel_rfl) (fun _ _ _ h => h) (by rfl) (fun w hSw => by (try dsimp only at hSw); go_simp; try rfl) hHeld ?_
  go_frame
  refine takeH (i := 12) (some 14) rfl rfl (by kernel_rfl) (by kernel_rfl) (by kernel_rfl) (fun _ _ _ h => h) (by rfl) (fun w hSw => by (try dsimp only at hSw); go_simp; try rfl) hHeld ?_
  go_frame
  refine takeH (i := 13) (some 15) rfl rfl (by kernel_rfl) (by kernel_rfl) (by kernel_rfl) (fun _ _ _ h => h) (by rfl) (fun w hSw => by (try dsimp only at hSw); go_simp; try rfl) hHeld ?_
  go_frame
  refine takeH (i := 14) (some 16) rfl rfl (by kernel_rfl) (by kernel_rfl) (by kernel_rfl) (fun _ _ _ h => h) (by rfl) (fun w hSw => by (try dsimp only at hSw); go_simp; try rfl) hHeld ?_
  go_frame
  refine wpAnyH_ready (rs := [15]) (by kernel_rfl) (by simp) (AllReadyH.cons rfl (fun K hK => ?_) AllReadyH.nil)
  go_simp
  refine hK.out _ _ ⟨(hB3.set 10 _).at (i := 4) rfl, (hB3.set 10 _).at (i := 5) rfl, (hB3.set 10 _).at (i := 6) rfl⟩ (fun hHeld => ?_)
  clear hK K
  refine takeH (i := 16) (some 17) rfl rfl (by kernel_rfl) (by kernel_rfl) (by kernel_rfl) (fun _ _ _ h => h) (by rfl) (fun w hSw => by (try dsimp only at hSw); go_simp; try rfl) hHeld ?_
  go_frame
  refine takeH (i := 17) (some 18) rfl rfl (by kernel_rfl) (by kernel_rfl) (by kernel_rfl) (fun _ _ _ h => h) (by rfl) (fun w hSw => by (try dsimp only at hSw); go_simp; try rfl) hHeld ?_
  go_frame
  refine wpAnyH_ready (rs := [18]) (by kernel_rfl) (by simp) (AllReadyH.cons rfl (fun K hK => ?_) AllReadyH.nil)
  rw [if_pos (by rfl)]
  refine stE (n := doN R.c (nwV R.pr)) none rfl rfl (hB3.set 10 _) rfl rfl rfl ?_
  refine hK.out _ _ ⟨((hB3.set 10 _).set 11 _).at (i := 4) rfl, ((hB3.set 10 _).set 11 _).at (i := 5) rfl, ((hB3.set 10 _).set 11 _).at (i := 6) rfl⟩ (fun hHeld => ?_)
  clear hK K
  refine wpAnyH_done (by kernel_rfl) ?_ _
  go_wp2_with fail
  go_end0
  refine ⟨rfl, ?_⟩
  have hB5 : Blk (((W3.setCell ⟨b, 10, none⟩ (.slice q3 n3 c3)).setCell ⟨b, 11, none⟩ (errV (doN R.c (nwV R.pr)))).setCell ⟨b, 7, none⟩ (.int .i64 2)) b (rnC (tellR R) mp ma (.slice q1 n1 c1) (.slice q2 n2 c2) (.slice q3 n3 c3)) 81 := ((hB3.set 10 _).set 11 _).set 7 _
  have C5 := ((chg_set W3 b 10 (.slice q3 n3 c3)).trans (chg_set _ b 11 (errV (doN R.c (nwV R.pr))))).trans (chg_set _ b 7 (.int .i64 2))
  have F5 : Frm (fun k => k = b) W3 _ := frm_chg C5 rfl
  have hNo : NoI (fun k => k = b) W3 := fun k hk hi => by subst hk; have := hi.uniq hB3.kindR; cases this
  have hnp : mp ≠ b := fun e => hR3.pm.noKind 81 (e ▸ hB3.kindR)
  have hna : ma ≠ b := fun e => hR3.am.noKind 81 (e ▸ hB3.kindR)
  refine ⟨⟨h.geb, h.gep, h.gea, h.ne, ⟨_, _, _, hB5, (i1.keep hb3).frm F5 hNo, (i2.keep hb3).frm F5 hNo, (hO3.less (by omega)).frm F5 hNo⟩, hR3.pm.frm F5 hnp hNo, hR3.am.frm F5 hna, hok.tell⟩, (frm_below hb3).trans (F5.mono fun k hk => .inl hk)⟩
end Go.Proofs.Ytpcejajidhfmpaa
