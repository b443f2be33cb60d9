/-
  What was promised, as a slice; the value out of it.
  Promise, Accepted, Refused.
  Refused; the calls of a round that is none.
-/
import Derived.Test.YtodmhohccclhmaaPk15
namespace Go.Proofs.Ytodmhohccclhmaa
open Go.RowKit
set_option linter.unusedVariables false
set_option maxRecDepth 100000
variable {G : Nat → Prop}

def IoA (W : World) (B : Nat) (os : List RrD) : Prop := ∀ r ∈ os, Io W B r.v r.l
theorem IoA.keep {W W' : World} {B : Nat} {os : List RrD} (h : IoA W B os) (hb : Below W.heap.size W W') : IoA W' B os := fun r hr => (h r hr).keep hb
theorem IoA.grown {W W' : World} {B b n e s : Nat} {u : Value} {xs : List Value} {os : List RrD} (h : IoA W B os) (hR : W.ownsRow b e s u n xs) (he : 3 ≠ e) (hg : W.grownBy W' u.ownBlock) : IoA W' B os :=
  fun r hr => (h r hr).kept hg (sep_ty (h r hr) hR he)
theorem ro_rowI {W : World} {base B n c : Nat} {q : Option Addr} {os : List RrD} (h : Ro W base (.slice q n c) os) (hc : IoA W B os) (hz : ∀ r ∈ os, r.l.length ≤ 17592186043904) : ∃ g, RrRow W q n c g 0 os := by
  rcases h.2 with ⟨h1, h2⟩ | ⟨g, cap, cur, h1, hb, hg, h3, h4, h5, h6⟩
  · cases h1
    have : os = [] := List.eq_nil_of_length_eq_zero h2
    subst this
    exact ⟨0, rfl, by omega, by omega, fun h => absurd h (by omega), fun h => absurd h (by omega), fun j x hx => by simp at hx⟩
  · cases h1
    have hcell : ∀ j u, (flR os)[j]? = some u → W.cell? ⟨g, j, none⟩ = some u := by
      intro j u hu
      have hj : j < (flR os).length := (List.getElem?_eq_some_iff.1 hu).1
      rw [cell_of_row W g j cur 61 (0, 0) hg]
      have hl := h.1
      rw [← h6, List.getElem?_take_of_lt (by omega)] at hu
      simpa using hu
    refine ⟨g, rfl, h3, by unfold maxLen at h4; omega, fun _ => rfl, fun _ => (Array.getElem?_eq_some_iff.1 hg).1, fun j x hx => ?_⟩
    rw [Nat.zero_add]
    have hm := List.mem_of_getElem? hx
    exact ⟨hcell _ _ (flR_at (i := 0) hx (by omega)), hcell _ _ (flR_at (i := 1) hx (by omega)), hcell _ _ (flR_at (i := 2) hx (by omega)), hcell _ _ (flR_at (i := 3) hx (by omega)), hcell _ _ (flR_at (i := 4) hx (by omega)), hcell _ _ (flR_at (i := 5) hx (by omega)), hcell _ _ (flR_at (i := 6) hx (by omega)), (hc x hm).is, hz x hm⟩
theorem pr_take_no {pr : List (Option (Bt × List Int))} {j : Nat} (h : pr[j]? = some none) : (pr.take (j + 1)).filterMap id = (pr.take j).filterMap id := by
  rw [List.take_add_one, List.filterMap_append, h]; simp
theorem pr_take_yes {pr : List (Option (Bt × List Int))} {j : Nat} {x : Bt × List Int} (h : pr[j]? = some (some x)) : (pr.take (j + 1)).filterMap id = (pr.take j).filterMap id ++ [x] := by
  rw [List.take_add_one, List.filterMap_append, h]; simp
set_option maxHeartbeats 1000000 in
theorem regs_any (B b mp ma : Nat) (R : Rd) (w : World) (h : Rn G w B b mp ma R) :
    Calls Try.prog 47 #[rptr b] w fun e w' => ∃ q n c g os, e = .returned (.slice q n c) ∧ RrRow w' q n c g 0 os ∧ os.map keyR = R.pr.filterMap id ∧ Below w.heap.size w w' := by
  obtain ⟨vo, vn, vv, hB, -⟩ := h.mem
  have hP := h.pm
  have hok := h.ok
  obtain ⟨N, hN⟩ : ∃ N, R.n = N := ⟨_, rfl⟩
  have hpl := hok.pl
  have h5 := hok.n5
  rw [hN] at hpl h5
  have c0 : ∀ V, Below w.heap.size w V → V.cell? ⟨b, 0, none⟩ = some (.int .i64 (N : Int)) := by rw [← hN]; exact hB.cellV (i := 0) rfl
  have c8 : ∀ V, Below w.heap.size w V → V.cell? ⟨b, 8, none⟩ = some (.map (some mp)) := hB.cellV (i := 8) rfl
  have hb0 := Below.refl w.heap.size w
  clear hB h hN
  go_enter Try.func47, Try.ntmps47
  go_wp2_with fail
  go_loopw [3, 11] (fun lv iv wr => ∃ (j : Nat) (os : List RrD), j ≤ N ∧ iv = .int .i64 (j : Int) ∧ Ro wr w.heap.size lv os ∧ IoA wr B os ∧ os.map keyR = (R.pr.take j).filterMap id ∧ os.length ≤ j ∧ Below w.heap.size w wr) (fun lv iv _ => N - (intOf iv).toNat)
  case atStart => exact ⟨0, [], by omega, rfl, ⟨rfl, .inl ⟨rfl, rfl⟩⟩, (fun r hr => by simp at hr), rfl, Nat.le_refl _, hb0⟩
  case round =>
    obtain ⟨j, os, hj, rfl, hO, hI, hK, hol, hb⟩ := hrel
    by_cases cj : j = N
    · subst cj
      obtain ⟨q, c, e⟩ := ro_form hO
      subst e
      have HK : Hid (os.map keyR = R.pr.filterMap id) := by show _ = _; rw [hK, ← hpl, List.take_length]
      have hz : ∀ r ∈ os, r.l.length ≤ 17592186043904 := by
        intro r hr
        have h1 : keyR r ∈ R.pr.filterMap id := by rw [← HK.out]; exact List.mem_map_of_mem hr
        rw [List.mem_filterMap] at h1
        obtain ⟨x, hx, hx2⟩ := h1
        simp only [id] at hx2
        subst hx2
        have := hok.sz _ _ hx
        omega
      have HR : Hid (∃ g, RrRow wr q os.length c g 0 os) := ro_rowI hO hI hz
      clear hO hI hK hz hP
      go_wp2_with fail
      go_ret
      obtain ⟨g, hg⟩ := HR.out
      exact ⟨_, _, _, _, os, rfl, hg, HK.out, hb⟩
    · have hjn : j < N := by omega
      have hji : (j : Int) < (N : Int) := by omega
      have hPw := hP.frm (X := fun _ => False) (frm_below hb) (fun e => e) (noI_false w).g
      have HP : Hid (Mp G wr B mp R.pr) := hPw
      clear hP
      cases hx : R.pr[j]? with
      | none => rw [List.getElem?_eq_none_iff] at hx; omega
      | some x =>
        cases x with
        | none =>
          have hrun := HP.out.look_no hx (by omega)
          have HK : Hid (os.map keyR = (R.pr.take (j + 1)).filterMap id) := by show _ = _; rw [pr_take_no hx, hK]
          clear hx hK hPw
          go_wp2_with fail
          have hbn : Below wr.heap.size wr (wr.alloc (.cells (rC zB zB (.slice none 0 0)) 61)) := (Below.refl _ _).alloc (Nat.le_refl _) _
          exact ⟨⟨j + 1, os, by omega, rfl, hO.keep hbn, hI.keep hbn, HK.out, by omega, ab_trans hb hbn⟩, by simp only [intOf]; omega⟩
        | some x =>
          obtain ⟨a, l⟩ := x
          obtain ⟨q, c, hrun, hIo⟩ := HP.out.look_yes hx (by omega)
          have HK : Hid ((os ++ [(⟨zB, a, .slice q l.length c, l⟩ : RrD)]).map keyR = (R.pr.take (j + 1)).filterMap id) := by show _ = _; rw [pr_take_yes hx, ← hK, List.map_append]; rfl
          obtain ⟨n, hn⟩ : ∃ n, l.length = n := ⟨_, rfl⟩
          rw [hn] at hrun hIo HK
          clear hx hK hPw HP
          go_upto_region 7 with fail
          obtain ⟨V, hE, hR, hbV⟩ := blk1 wr (rC zB a (.slice q n c)) 61
          rw [show wr.alloc (.cells _ 61) = V from hE]
          obtain ⟨x0, x1, x2, x3, x4, x5, x6⟩ := cells7 hR
          have hbv := Below.refl V.heap.size V
          have hOV := hO.keep hbV
          have hIV := hI.keep hbV
          have hIo := hIo.keep hbV
          have hbw := ab_trans hb hbV
          clear hE hrun hO hI
          go_wp2_with (first
            | (refine bs_r1 rfl rfl zB a q n c (by simp only [List.map_toArray, List.map_cons, List.map_nil]; rfl) ?_; intro W1 hB1 b1; go_frame)
            | (have mk := b1; clear mk; refine app_r w rfl rfl l rfl (hOV.keep b1) rfl hB1 (by omega) (ab_trans hbw b1) ?_; intro v2 W2 hO2 b2 g2; go_frame))
          have hIA : IoA W2 B (os ++ [⟨zB, a, .slice q n c, l⟩]) := by
            intro r hr
            rcases List.mem_append.1 hr with hr | hr
            · exact ((hIV.keep b1).grown (hOV.keep b1) (by decide) g2) r hr
            · have : r = ⟨zB, a, .slice q n c, l⟩ := by simpa using hr
              subst this
              exact (hIo.keep b1).kept g2 (sep_ty (hIo.keep b1) (hOV.keep b1) (by decide))
          exact ⟨⟨j + 1, _, by omega, rfl, hO2, hIA, HK.out, by simp; omega, b2⟩, by simp only [intOf]; omega⟩
/-- An error into a cell of a block, at one operation. -/
theorem stE {o : Oper} {a : Act} {w : World} {K : Act → World → Prop} {Q : Exit → Act → World → Prop} (d : Option Tmp) (hd : o.dst = d) {x y : Operand} (ho : o.op = .store 55 x y) {b i : Nat} {vs : Array Value} {t : TypeId} {n : Nat} {old : Value} (hB : Blk w b vs t)
    (hx : a.eval x = .pointer (some ⟨b, i, none⟩)) (hy : a.eval y = errV n) (hi : vs[i]? = some old)
    (h : K (a.put d undef) (w.setCell ⟨b, i, none⟩ (errV n))) : o.wp Try.prog a w K Q := by
  subst hd
  have c := hB.at hi
  have f := hB.frozen i
  unfold Oper.wp execOp
  simp only [ho, hx, hy]
  unfold errV at h ⊢
  split at h
  · rename_i e
    rw [if_pos e]
    go_simp
    exact h
  · rename_i e
    rw [if_neg e]
    go_simp
    exact h
theorem nw_keys {os : List RrD} {pr : List (Option (Bt × List Int))} (h : os.map keyR = pr.filterMap id) : nwL os = nwV pr := by unfold nwL nwV; rw [h]
set_option maxHeartbeats 1000000 in
theorem tell_any (B b mp ma : Nat) (R : Rd) (w : World) (h : Rn G w B b mp ma R) (hB : B ≤ w.heap.size) (hG : ∀ k, G k → k < w.heap.size) :
    Calls Try.prog 35 #[rptr b] w fun e w' => e = .returned (.tuple #[]) ∧ Rn G w' B b mp ma (tellR R) ∧ Frm (bks b mp ma) w w' := by
  obtain ⟨vo, vn, vv, hBk, i1, i2, i3⟩ := h.mem
  have hok := h.ok
  obtain ⟨q1, c1, e1⟩ := i1.is.form
  obtain ⟨q2, c2, e2⟩ := i2.is.form
  subst e1
  subst e2
  obtain ⟨n1, hn1⟩ : ∃ n, R.c.o.length = n := ⟨_, rfl⟩
  obtain ⟨n2, hn2⟩ : ∃ n, R.c.n.length = n := ⟨_, rfl⟩
  rw [hn1] at hBk i1
  rw [hn2] at hBk i2
  have hbl := hBk.lt
  have d4 : w.cell? ⟨b, 4, none⟩ = some (.int .i64 R.c.k) := hBk.at (i := 4) rfl
  have d5 : w.cell? ⟨b, 5, none⟩ = some (.slice q1 n1 c1) := hBk.at (i := 5) rfl
  have d6 : w.cell? ⟨b, 6, none⟩ = some (.slice q2 n2 c2) := hBk.at (i := 6) rfl
  have hv1 : (nwV R.pr).length ≤ 1000 := nwV_le hok.sz
  have hv2 : (doL R.c (nwV R.pr)).length ≤ 1000 := doL_le hok.gd hv1 (by omega)
  go_enter Try.func35, Try.ntmps35
  go_upto_region 0 with fail
  refine wp_region_held_drew (S := fun w' => w'.cell? ⟨b, 4, none⟩ = some (.int .i64 R.c.k) ∧ w'.cell? ⟨b, 5, none⟩ = some (.slice q1 n1 c1) ∧ w'.cell? ⟨b, 6, none⟩ = some (.slice q2 n2 c2)) (by kernel_rfl) ⟨d4, d5, d6⟩ (fun hHeld => ?_)
  have hb0 : Below w.heap.size w w.drew := ab_drew (Below.refl _ _)
  generalize w.drew = W0 at *
  refine takeH (i := 0) (some 3) rfl rfl (by kernel_rfl) (by kernel_rfl) (by kernel_rfl) (fun _ _ _ h => h) (by rfl) (fun w hSw => by (try dsimp only at hSw); go_simp; try rfl) hHeld ?_
  go_frame
  refine takeH (i := 1) (some 4) rfl rfl (by kernel_rfl) (by kernel_rfl) (by kernel_rfl) (fun _ _ _ h => h) (by rfl) (fun w hSw => by (try dsimp only at hSw); go_simp; try rfl) hHeld ?_
  go_frame
  refine takeH (i := 2) (some 5) rfl rfl (by kernel_rfl) (by kernel_rfl) (by kernel_rfl) (fun _ _ _ h => h) (by rfl) (fun w hSw => by (try dsimp only at hSw); go_simp; try rfl) hHeld ?_
  go_frame
  refine takeH (i := 3) (some 6) rfl rfl (by kernel_rfl) (by kernel_rfl) (by kernel_rfl) (fun _ _ _ h => h) (by rfl) (fun w hSw => by (try dsimp only at hSw); go_simp; try rfl) hHeld ?_
  go_frame
  refine takeH (i := 4) (some 7) rfl rfl (by kernel_rfl) (by kernel_rfl) (by kernel_rfl) (fun _ _ _ h => h) (by rfl) (fun w hSw => by (try dsimp only at hSw); go_simp; try rfl) hHeld ?_
  go_frame
  refine takeH (i := 5) (some 8) rfl rfl (by kernel_rfl) (by kernel_rfl) (by kernel_rfl) (fun _ _ _ h => h) (by rfl) (fun w hSw => by (try dsimp only at hSw); have y0 := hSw.1; have y1 := hSw.2.1; have y2 := hSw.2.2; go_simp; try rfl) hHeld ?_
  go_frame
  refine takeH (i := 6) (some 9) rfl rfl (by kernel_rfl) (by kernel_rfl) (by kernel_rfl) (fun _ _ _ h => h) (by rfl) (fun w hSw => by (try dsimp only at hSw); go_simp; try rfl) hHeld ?_
  go_frame
  refine wpAnyH_ready (rs := [7]) (by kernel_rfl) (by simp) (AllReadyH.cons rfl (fun K hK => ?_) AllReadyH.nil)
  go_simp
  refine (regs_any B b mp ma R W0 (h.keep hb0)).mono ?_
  rintro e W1 ⟨q, n, c, g, os, rfl, hRow, hkeys, b1⟩
  show K _ _
  have hnw : nwL os = nwV R.pr := nw_keys hkeys
  have hb1 := ab_trans hb0 b1
  refine hK.out _ _ ⟨keep_cell hb1 d4 hbl, keep_cell hb1 d5 hbl, keep_cell hb1 d6 hbl⟩ (fun hHeld => ?_)
  clear hK K
  refine wpAnyH_ready (rs := [8]) (by kernel_rfl) (by simp) (AllReadyH.cons rfl (fun K hK => ?_) AllReadyH.nil)
  go_simp
  refine (newest_any q n c g 0 os W1 hRow (by rw [hnw]; omega)).mono ?_
  rintro e W2 ⟨v2, rfl, hO2, b2⟩
  show K _ _
  rw [hnw] at hO2
  have hb2 := ab_trans hb1 b2
  obtain ⟨qv, cv, ev⟩ := hO2.is.form
  generalize (nwV R.pr).length = nv at ev hv1
  subst ev
  refine hK.out _ _ ⟨keep_cell hb2 d4 hbl, keep_cell hb2 d5 hbl, keep_cell hb2 d6 hbl⟩ (fun hHeld => ?_)
  clear hK K
  refine wpAnyH_ready (rs := [9]) (by kernel_rfl) (by simp) (AllReadyH.cons rfl (fun K hK => ?_) AllReadyH.nil)
  go_simp
  refine (gdo_any R.c _ _ _ (nwV R.pr) W2 (i1.is.keep hb2) (i2.is.keep hb2) hO2.is (by have := nwV_le hok.sz; omega)).mono ?_
  rintro e W3 ⟨⟨q3, n3, c3, rfl, hO3, hn3⟩, b3⟩
  show K _ _
  have hb3 := ab_trans hb2 b3
  have zb3 := hb2.size
  refine hK.out _ _ ⟨keep_cell hb3 d4 hbl, keep_cell hb3 d5 hbl, keep_cell hb3 d6 hbl⟩ (fun hHeld => ?_)
  clear hK K
  have hB3 := hBk.keep hb3
  have hR3 := h.keep hb3
  have x4 : W3.cell? ⟨b, 4, none⟩ = some (.int .i64 R.c.k) := hHeld.1
  have x5 : W3.cell? ⟨b, 5, none⟩ = some (.slice q1 n1 c1) := hHeld.2.1
  have x6 : W3.cell? ⟨b, 6, none⟩ = some (.slice q2 n2 c2) := hHeld.2.2
  have x10 : W3.cell? ⟨b, 10, none⟩ = some vv := hB3.at (i := 10) rfl
  have x11 : W3.cell? ⟨b, 11, none⟩ = some (errV R.e) := hB3.at (i := 11) rfl
  have x7 : W3.cell? ⟨b, 7, none⟩ = some (.int .i64 (R.st : Int)) := hB3.at (i := 7) rfl
  have f10 := hB3.frozen 10
  have f11 := hB3.frozen 11
  have f7 := hB3.frozen 7
  refine takeH (i := 10) (some 2) rfl rfl (by kernel_rfl) (by kernel_rfl) (by kernel_rfl) (fun _ _ _ h => h) (by rfl) (fun w hSw => by (try dsimp only at hSw); go_simp; try rfl) hHeld ?_
  go_frame
  refine takeH (i := 11) (some 13) rfl rfl (by kernel_rfl) (by kernel_rfl) (by kernel_rfl) (fun _ _ _ h => h) (by rfl) (fun w hSw => by (try dsimp only at hSw); go_simp; try rfl) hHeld ?_
  go_frame
  refine takeH (i := 12) (some 14) rfl rfl (by kernel_rfl) (by kernel_rfl) (by kernel_rfl) (fun _ _ _ h => h) (by rfl) (fun w hSw => by (try dsimp only at hSw); go_simp; try rfl) hHeld ?_
  go_frame
  refine takeH (i := 13) (some 15) rfl rfl (by kernel_rfl) (by kernel_rfl) (by kernel_rfl) (fun _ _ _ h => h) (by rfl) (fun w hSw => by (try dsimp only at hSw); go_simp; try rfl) hHeld ?_
  go_frame
  refine takeH (i := 14) (some 16) rfl rfl (by kernel_rfl) (by kernel_rfl) (by kernel_rfl) (fun _ _ _ h => h) (by rfl) (fun w hSw => by (try dsimp only at hSw); go_simp; try rfl) hHeld ?_
  go_frame
  refine wpAnyH_ready (rs := [15]) (by kernel_rfl) (by simp) (AllReadyH.cons rfl (fun K hK => ?_) AllReadyH.nil)
  go_simp
  refine hK.out _ _ ⟨(hB3.set 10 _).at (i := 4) rfl, (hB3.set 10 _).at (i := 5) rfl, (hB3.set 10 _).at (i := 6) rfl⟩ (fun hHeld => ?_)
  clear hK K
  refine takeH (i := 16) (some 17) rfl rfl (by kernel_rfl) (by kernel_rfl) (by kernel_rfl) (fun _ _ _ h => h) (by rfl) (fun w hSw => by (try dsimp only at hSw); go_simp; try rfl) hHeld ?_
  go_frame
  refine takeH (i := 17) (some 18) rfl rfl (by kernel_rfl) (by kernel_rfl) (by kernel_rfl) (fun _ _ _ h => h) (by rfl) (fun w hSw => by (try dsimp only at hSw); go_simp; try rfl) hHeld ?_
  go_frame
  refine wpAnyH_ready (rs := [18]) (by kernel_rfl) (by simp) (AllReadyH.cons rfl (fun K hK => ?_) AllReadyH.nil)
  rw [if_pos (by rfl)]
  refine stE (n := doN R.c (nwV R.pr)) none rfl rfl (hB3.set 10 _) rfl rfl rfl ?_
  refine hK.out _ _ ⟨((hB3.set 10 _).set 11 _).at (i := 4) rfl, ((hB3.set 10 _).set 11 _).at (i := 5) rfl, ((hB3.set 10 _).set 11 _).at (i := 6) rfl⟩ (fun hHeld => ?_)
  clear hK K
  refine wpAnyH_done (by kernel_rfl) ?_ _
  go_wp2_with fail
  go_end0
  refine ⟨rfl, ?_⟩
  have hB5 : Blk (((W3.setCell ⟨b, 10, none⟩ (.slice q3 n3 c3)).setCell ⟨b, 11, none⟩ (errV (doN R.c (nwV R.pr)))).setCell ⟨b, 7, none⟩ (.int .i64 2)) b (rnC (tellR R) mp ma (.slice q1 n1 c1) (.slice q2 n2 c2) (.slice q3 n3 c3)) 81 := ((hB3.set 10 _).set 11 _).set 7 _
  have C5 := ((chg_set W3 b 10 (.slice q3 n3 c3)).trans (chg_set _ b 11 (errV (doN R.c (nwV R.pr))))).trans (chg_set _ b 7 (.int .i64 2))
  have F5 : Frm (fun k => k = b) W3 _ := frm_chg C5 rfl
  have hNo : NoI (fun k => k = b) W3 := fun k hk hi => by subst hk; have := hi.uniq hB3.kindR; cases this
  have hnp : mp ≠ b := fun e => hR3.pm.noKind 81 (e ▸ hB3.kindR)
  have hna : ma ≠ b := fun e => hR3.am.noKind 81 (e ▸ hB3.kindR)
  refine ⟨⟨h.geb, h.gep, h.gea, h.ne, ⟨_, _, _, hB5, (i1.keep hb3).frm F5 hNo.g, (i2.keep hb3).frm F5 hNo.g, (ig_new hO3 (fun k hk => by have := hG k hk; omega) (by omega)).frm F5 hNo.g⟩, hR3.pm.frm F5 hnp hNo.g, hR3.am.frm F5 hna, hok.tell⟩, (frm_below hb3).trans (F5.mono fun k hk => .inl hk)⟩
end Go.Proofs.Ytodmhohccclhmaa
namespace Go.Proofs.Ytodmhohccclhmaa
open Go.RowKit
set_option linter.unusedVariables false
set_option maxRecDepth 100000
variable {G : Nat → Prop}

theorem Rn.neb {W : World} {B b mp ma : Nat} {R : Rd} (h : Rn G W B b mp ma R) : mp ≠ b ∧ ma ≠ b := by
  obtain ⟨vo, vn, vv, hB, -⟩ := h.mem
  exact ⟨fun e => h.pm.noKind 81 (e ▸ hB.kindR), fun e => h.am.noKind 81 (e ▸ hB.kindR)⟩
theorem Rn.lt {W : World} {B b mp ma : Nat} {R : Rd} (h : Rn G W B b mp ma R) : b < W.heap.size := by
  obtain ⟨vo, vn, vv, hB, -⟩ := h.mem
  exact hB.lt
/-- A promise more. -/
theorem Rn.prs {W W' : World} {B b mp ma : Nat} {R : Rd} (h : Rn G W B b mp ma R) {k : Int} {a : Bt} {l : List Int} (hm : Mp G W' B mp (pmP R k a l)) (hg : W.grownBy W' (some mp)) (hl : l.length ≤ 1000) : Rn G W' B b mp ma { R with pr := pmP R k a l } := by
  obtain ⟨vo, vn, vv, hB, i1, i2, i3⟩ := h.mem
  have F : Frm (fun k => k = mp) W W' := frm_grown hg rfl
  have hNo : NoI (fun k => k = mp) W := fun k hk hi => by subst hk; exact h.pm.noKind _ hi
  exact ⟨h.geb, h.gep, h.gea, h.ne, ⟨vo, vn, vv, hB.frm F (fun e => h.neb.1 e.symm), i1.frm F hNo.g, i2.frm F hNo.g, i3.frm F hNo.g⟩, hm, h.am.frm F (fun e => h.ne e.symm), h.ok.put hl⟩
/-- An acceptance more. -/
theorem Rn.acc {W W' : World} {B b mp ma : Nat} {R : Rd} (h : Rn G W B b mp ma R) {k : Int} (hm : Ma W' ma (acP R k)) (hg : W.grownBy W' (some ma)) : Rn G W' B b mp ma { R with ac := acP R k } := by
  obtain ⟨vo, vn, vv, hB, i1, i2, i3⟩ := h.mem
  have F : Frm (fun k => k = ma) W W' := frm_grown hg rfl
  have hNo : NoI (fun k => k = ma) W := fun k hk hi => by subst hk; exact h.am.noKind _ hi
  exact ⟨h.geb, h.gep, h.gea, h.ne, ⟨vo, vn, vv, hB.frm F (fun e => h.neb.2 e.symm), i1.frm F hNo.g, i2.frm F hNo.g, i3.frm F hNo.g⟩, h.pm.frm F h.ne hNo.g, hm, h.ok.acc k R.st⟩
theorem hear_cells {W : World} {B b mp ma : Nat} {R : Rd} (h : Rn G W B b mp ma R) : (∀ V, Below W.heap.size W V → V.cell? ⟨b, 0, none⟩ = some (.int .i64 (R.n : Int))) ∧ (∀ V, Below W.heap.size W V → V.cell? ⟨b, 1, none⟩ = some (.int .i64 R.b.n)) ∧ (∀ V, Below W.heap.size W V → V.cell? ⟨b, 2, none⟩ = some (.int .i64 R.b.nd)) ∧ (∀ V, Below W.heap.size W V → V.cell? ⟨b, 3, none⟩ = some (.int .i64 R.b.lf)) ∧
    (∀ V, Below W.heap.size W V → V.cell? ⟨b, 7, none⟩ = some (.int .i64 (R.st : Int))) ∧ (∀ V, Below W.heap.size W V → V.cell? ⟨b, 8, none⟩ = some (.map (some mp))) ∧ (∀ V, Below W.heap.size W V → V.cell? ⟨b, 9, none⟩ = some (.map (some ma))) := by
  obtain ⟨vo, vn, vv, hB, -⟩ := h.mem
  exact ⟨hB.cellV (i := 0) rfl, hB.cellV (i := 1) rfl, hB.cellV (i := 2) rfl, hB.cellV (i := 3) rfl, hB.cellV (i := 7) rfl, hB.cellV (i := 8) rfl, hB.cellV (i := 9) rfl⟩
/-- What Promise answers and leaves. -/
def PmE (G : Nat → Prop) (W W' : World) (B b mp ma : Nat) (R' : Rd) (x : Bool) (e : Ending) : Prop := e = .returned (.bool x) ∧ Rn G W' B b mp ma R' ∧ Frm (bks b mp ma) W W'
theorem pme_no {W W' : World} {B b mp ma : Nat} {R R' : Rd} {x : Bool} (h : Rn G W B b mp ma R) (hb : Below W.heap.size W W') (hx : x = false) (hR : R' = R) : PmE G W W' B b mp ma R' x (.returned (.bool false)) := by
  subst hx
  subst hR
  exact ⟨rfl, h.keep hb, frm_below hb⟩
theorem pm_no {R : Rd} {k : Int} {x a : Bt} {l : List Int} (h : pmK R k x = false) : pmB R k x = false ∧ pmS R k x a l = R := by
  unfold pmB pmS
  rw [h]
  exact ⟨rfl, rfl⟩
theorem pmK_yes {R : Rd} {j : Nat} {x : Bt} (h1 : hearB R (j : Int) x = true) (h2 : R.st = 1) (h3 : R.pr[j]? = some none) : pmK R (j : Int) x = true := by
  unfold pmK
  have hj : j < R.pr.length := (List.getElem?_eq_some_iff.1 h3).1
  rw [h1, h2, (prsd_iff hj).1.2 h3]
  rfl
theorem pm_few {R : Rd} {j : Nat} {x a : Bt} {l : List Int} (h : pmK R (j : Int) x = true) (h2 : ¬ R.n < 2 * (cntO R.pr + 1)) : pmB R (j : Int) x = false ∧ pmS R (j : Int) x a l = { R with pr := pmP R (j : Int) a l } := by
  unfold pmB pmS
  rw [h, if_pos rfl, if_neg h2, decide_eq_false h2]
  exact ⟨rfl, rfl⟩
theorem pm_all {R : Rd} {j : Nat} {x a : Bt} {l : List Int} (h : pmK R (j : Int) x = true) (h2 : R.n < 2 * (cntO R.pr + 1)) : pmB R (j : Int) x = true ∧ pmS R (j : Int) x a l = tellR { R with pr := pmP R (j : Int) a l } := by
  unfold pmB pmS
  rw [h, if_pos rfl, if_pos h2, decide_eq_true h2]
  exact ⟨rfl, rfl⟩
set_option maxHeartbeats 2000000 in
theorem promise_any (B b mp ma : Nat) (R : Rd) (k : Int) (x p a : Bt) (v : Value) (l : List Int) (w : World) (h : Rn G w B b mp ma R) (hB : B ≤ w.heap.size) (hG : ∀ k, G k → k < w.heap.size) (hv : Is w v l) (hl : l.length ≤ 1000) :
    Calls Try.prog 19 #[rptr b, .int .i64 k, bV x, rV p a v] w fun e w' => PmE G w w' B b mp ma (pmS R k x a l) (pmB R k x) e := by
  obtain ⟨q, c, e⟩ := hv.form
  subst e
  obtain ⟨n, hn⟩ : ∃ n, l.length = n := ⟨_, rfl⟩
  rw [hn] at hv ⊢
  go_enter Try.func19, Try.ntmps19
  go_upto_region 1 with fail
  obtain ⟨A, hAe, hX, hY, hw⟩ := blk2 w (bC x) (rC p a (.slice q n c)) 23 61
  rw [hAe]
  clear hAe
  have hA := h.keep hw
  obtain ⟨c0, c1, c2, c3, c7, c8, c9⟩ := hear_cells hA
  obtain ⟨x0, x1, x2⟩ := cells3 hX
  have hbv := Below.refl A.heap.size A
  go_wp2_with fail
  refine (hears_any R b k x A (c0 _ hbv) (c1 _ hbv) (c2 _ hbv) (c3 _ hbv)).mono ?_
  rintro e W1 ⟨rfl, b1⟩
  have hbv := b1
  have hw1 := ab_trans hw b1
  cases h1 : hearB R k x
  · have HN : Hid (pmB R k x = false ∧ pmS R k x a l = R) := pm_no (by unfold pmK; rw [h1]; rfl)
    clear h1
    go_wp2_with fail
    go_ret
    exact pme_no h hw1 HN.out.1 HN.out.2
  · by_cases h2 : R.st = 1
    · have z1 : ((R.st : Int) != 1) = false := by rw [h2]; rfl
      obtain ⟨j, rfl, hj, -⟩ := hear_lt h1
      have hok := h.ok
      have hpl := hok.pl
      have h5 := hok.n5
      have hjp : j < R.pr.length := by omega
      cases hx : R.pr[j]? with
      | none => rw [List.getElem?_eq_none_iff] at hx; omega
      | some y =>
        cases y with
        | some y =>
          obtain ⟨a', l'⟩ := y
          have HN : Hid (pmB R (j : Int) x = false ∧ pmS R (j : Int) x a l = R) := pm_no (by unfold pmK; rw [(prsd_iff hjp).2.2 ⟨a', l', hx⟩]; simp)
          obtain ⟨q', c', hrun, -⟩ := (hA.keep b1).pm.look_yes hx (by omega)
          clear h1 hx h2
          generalize l'.length = n' at hrun
          go_wp2_with fail
          go_ret
          exact pme_no h (ab_trans hw1 ((Below.refl _ _).alloc (Nat.le_refl _) _)) HN.out.1 HN.out.2
        | none =>
          have HK : Hid (pmK R (j : Int) x = true) := pmK_yes h1 h2 hx
          have hrun := (hA.keep b1).pm.look_no hx (by omega)
          go_upto_region 6 with fail
          obtain ⟨V, hE, -, bV⟩ := blk1 W1 (rC zB zB (.slice none 0 0)) 61
          rw [show W1.alloc (.cells _ 61) = V from hE]
          have hAV := ab_trans b1 bV
          have hwV := ab_trans hw1 bV
          have hRV := hA.keep hAV
          have hYV := hY.keep hAV
          have hvV := hv.keep hwV
          have c8V := c8 V hAV
          have hblV := hRV.lt
          have hne : w.heap.size + 1 ≠ mp := fun e => hRV.pm.noKind 61 (e ▸ hYV.kindR)
          have zwV : w.heap.size ≤ V.heap.size := hwV.size
          clear hE hrun c0 c1 c2 c3 c7 c8 c9 x0 x1 x2 hX hY hw hv h1 hbv z1 hA hw1 b1 bV hAV
          have D : ∀ W, Frm (fun k => k = mp) V W → W.cell? ⟨b, 8, none⟩ = some (.map (some mp)) ∧ Blk W (w.heap.size + 1) (rC p a (.slice q n c)) 61 := fun W hF =>
            ⟨by obtain ⟨vo, vn, vv, hBk, -⟩ := hRV.mem; exact (hBk.frm hF (fun e => hRV.neb.1 e.symm)).at (i := 8) rfl, hYV.frm hF hne⟩
          refine wp_region_held_drew (S := fun w' => Frm (fun k => k = mp) V w') (by kernel_rfl) (frm_below (ab_drew (Below.refl _ _))) (fun hHeld => ?_)
          refine takeH (i := 0) (some 33) rfl rfl (by kernel_rfl) (by kernel_rfl) (by kernel_rfl) (fun _ _ _ h => h) (by rfl) (fun w hSw => by (try dsimp only at hSw); go_simp; try rfl) hHeld ?_
          go_frame
          refine takeH (i := 1) (some 34) rfl rfl (by kernel_rfl) (by kernel_rfl) (by kernel_rfl) (fun _ _ _ h => h) (by rfl) (fun w hSw => by (try dsimp only at hSw); go_simp; try rfl) hHeld ?_
          go_frame
          refine takeH (i := 2) (some 35) rfl rfl (by kernel_rfl) (by kernel_rfl) (by kernel_rfl) (fun _ _ _ h => h) (by rfl) (fun w hSw => by (try dsimp only at hSw); go_simp; try rfl) hHeld ?_
          go_frame
          refine takeH (i := 3) (some 36) rfl rfl (by kernel_rfl) (by kernel_rfl) (by kernel_rfl) (fun _ _ _ h => h) (by rfl) (fun w hSw => by (try dsimp only at hSw); have := (D _ hSw).1; go_simp; try rfl) hHeld ?_
          go_frame
          refine takeH (i := 4) (some 37) rfl rfl (by kernel_rfl) (by kernel_rfl) (by kernel_rfl) (fun _ _ _ h => h) (by rfl) (fun w hSw => by (try dsimp only at hSw); go_simp; try rfl) hHeld ?_
          go_frame
          refine takeH (i := 5) (some 38) rfl rfl (by kernel_rfl) (by kernel_rfl) (by kernel_rfl) (fun _ _ _ h => h) (by rfl) (fun w hSw => by (try dsimp only at hSw); go_simp; try rfl) hHeld ?_
          go_frame
          refine takeH (i := 6) (some 39) rfl rfl (by kernel_rfl) (by kernel_rfl) (by kernel_rfl) (fun _ _ _ h => h) (by rfl) (fun w hSw => by (try dsimp only at hSw); have hh := (D _ hSw).2; have y0 := hh.at (i := 3) rfl; have y1 := hh.at (i := 4) rfl; have y2 := hh.at (i := 5) rfl; go_simp; try rfl) hHeld ?_
          go_frame
          refine takeH (i := 7) (some 40) rfl rfl (by kernel_rfl) (by kernel_rfl) (by kernel_rfl) (fun _ _ _ h => h) (by rfl) (fun w hSw => by (try dsimp only at hSw); go_simp; try rfl) hHeld ?_
          go_frame
          refine takeH (i := 8) (some 41) rfl rfl (by kernel_rfl) (by kernel_rfl) (by kernel_rfl) (fun _ _ _ h => h) (by rfl) (fun w hSw => by (try dsimp only at hSw); have hh := (D _ hSw).2; have y0 := hh.at (i := 6) rfl; go_simp; try rfl) hHeld ?_
          go_frame
          refine wpAnyH_ready (rs := [9]) (by kernel_rfl) (by simp) (AllReadyH.cons rfl (fun K hK => ?_) AllReadyH.nil)
          go_simp
          have hvd : Below V.heap.size V V.drew := ab_drew (Below.refl _ _)
          generalize V.drew = V0 at *
          refine (rclone_any _ l _ (hvV.keep hvd) (by omega)).mono ?_
          rintro e W3 ⟨v3, rfl, hO3, b3⟩
          show K _ _
          have hb3 := ab_trans hvd b3
          obtain ⟨q3, c3, e3⟩ := hO3.is.form
          rw [hn] at e3
          subst e3
          have hR3 := hRV.keep hb3
          have zb3 : V.heap.size ≤ V0.heap.size := hvd.size
          obtain ⟨W4, hup, hM4, g4⟩ := hR3.pm.put (a := a) hx (by omega) (by omega) (ig_new hO3 (fun k hk => by have := hG k hk; omega) (by omega)) hn
          have hup : (Instr.mapUpdate 78 (.map (some mp)) (.int .i64 (j : Int)) (.agg #[.int .i64 0, .int .i64 0, .int .i64 0, .int .i64 a.n, .int .i64 a.nd, .int .i64 a.lf, .slice q3 n c3])).run Try.prog W3 = .ok () W4 := hup
          refine hK.out _ _ (frm_below hb3) (fun hHeld => ?_)
          clear hK K
          refine takeH (i := 10) (some 43) rfl rfl (by kernel_rfl) (by kernel_rfl) (by kernel_rfl) (fun _ _ _ h => h) (by rfl) (fun w hSw => by (try dsimp only at hSw); go_simp; try rfl) hHeld ?_
          go_frame
          refine wpAnyH_ready (rs := [11]) (by kernel_rfl) (by simp) (AllReadyH.cons rfl (fun K hK => ?_) AllReadyH.nil)
          go_simp
          have hF4 : Frm (fun k => k = mp) V W4 := (frm_below hb3).trans (frm_grown g4 rfl)
          refine hK.out _ _ hF4 (fun hHeld => ?_)
          clear hK K
          refine wpAnyH_done (by kernel_rfl) ?_ _
          have hR4 := hR3.prs (k := (j : Int)) (by unfold pmP; rw [Int.toNat_natCast]; exact hM4) g4 hl
          obtain ⟨c0, -, -, -, -, c8, -⟩ := hear_cells hR4
          have hlen := fun ty => hR4.pm.len ty
          have hcnt : cntO (pmP R (j : Int) a l) = cntO R.pr + 1 := by unfold pmP; rw [Int.toNat_natCast]; exact cntO_set _ hx
          have hcl := cntO_le R.pr
          dsimp only at hlen
          rw [hcnt] at hlen
          generalize hN : cntO R.pr + 1 = N at hlen
          have hFw : Frm (bks b mp ma) w W4 := (frm_below hwV).trans (hF4.mono fun k hk => .inr (.inl hk))
          have hbv := Below.refl W4.heap.size W4
          clear D hRV hYV hvV hup hM4 g4 hR3 hO3 hcnt hHeld
          go_wp2_with fail
          refine (rmaj_any b R.n N _ (c0 _ hbv) (by omega)).mono ?_
          rintro e Z ⟨rfl, hZ⟩
          subst Z
          by_cases h3 : R.n < 2 * N
          · have HN : Hid (pmB R (j : Int) x = true ∧ pmS R (j : Int) x a l = tellR { R with pr := pmP R (j : Int) a l }) := pm_all HK.out (by omega)
            rw [decide_eq_true h3]
            go_wp2_with fail
            refine (tell_any B b mp ma _ _ hR4 (by have := hFw.size; omega) (fun k hk => by have := hFw.size; have := hG k hk; omega)).mono ?_
            rintro e W5 ⟨rfl, hR5, F5⟩
            go_wp2_with fail
            go_ret
            rw [HN.out.1, HN.out.2]
            exact ⟨rfl, hR5, hFw.trans F5⟩
          · have HN : Hid (pmB R (j : Int) x = false ∧ pmS R (j : Int) x a l = { R with pr := pmP R (j : Int) a l }) := pm_few HK.out (by omega)
            rw [decide_eq_false h3]
            go_wp2_with fail
            go_ret
            rw [HN.out.1, HN.out.2]
            exact ⟨rfl, hR4, hFw⟩
    · have z1 : ((R.st : Int) != 1) = true := by simp; omega
      have HN : Hid (pmB R k x = false ∧ pmS R k x a l = R) := pm_no (by unfold pmK; rw [decide_eq_false h2]; simp)
      clear h1 h2
      go_wp2_with fail
      go_ret
      exact pme_no h hw1 HN.out.1 HN.out.2
theorem ac_no {R : Rd} {k : Int} {x : Bt} (h : acK R k x = false) : acB R k x = false ∧ acS R k x = R := by
  unfold acB acS
  rw [h]
  exact ⟨rfl, rfl⟩
theorem ac_few {R : Rd} {k : Int} {x : Bt} (h : acK R k x = true) (h2 : ¬ R.n < 2 * cntB (acP R k)) : acB R k x = false ∧ acS R k x = { R with ac := acP R k } := by
  unfold acB acS
  rw [h, if_pos rfl, if_neg h2, decide_eq_false h2]
  exact ⟨rfl, rfl⟩
theorem ac_all {R : Rd} {k : Int} {x : Bt} (h : acK R k x = true) (h2 : R.n < 2 * cntB (acP R k)) : acB R k x = true ∧ acS R k x = { R with ac := acP R k, st := 3 } := by
  unfold acB acS
  rw [h, if_pos rfl, if_pos h2, decide_eq_true h2]
  exact ⟨rfl, rfl⟩
/-- Another stage. -/
theorem Rn.stg {W : World} {B b mp ma : Nat} {R : Rd} (h : Rn G W B b mp ma R) (s : Nat) : Rn G (W.setCell ⟨b, 7, none⟩ (.int .i64 (s : Int))) B b mp ma { R with st := s } ∧ Frm (fun k => k = b) W (W.setCell ⟨b, 7, none⟩ (.int .i64 (s : Int))) := by
  obtain ⟨vo, vn, vv, hB, i1, i2, i3⟩ := h.mem
  have F : Frm (fun k => k = b) W (W.setCell ⟨b, 7, none⟩ (.int .i64 (s : Int))) := frm_chg (chg_set W b 7 _) rfl
  have hNo : NoI (fun k => k = b) W := fun k hk hi => by subst hk; have := hi.uniq hB.kindR; cases this
  exact ⟨⟨h.geb, h.gep, h.gea, h.ne, ⟨vo, vn, vv, hB.set 7 _, i1.frm F hNo.g, i2.frm F hNo.g, i3.frm F hNo.g⟩, h.pm.frm F h.neb.1 hNo.g, h.am.frm F h.neb.2, ⟨h.ok.n1, h.ok.n5, h.ok.pl, h.ok.al, h.ok.gd, h.ok.sz, h.ok.vz⟩⟩, F⟩
set_option maxHeartbeats 2000000 in
theorem accepted_any (B b mp ma : Nat) (R : Rd) (k : Int) (x : Bt) (w : World) (h : Rn G w B b mp ma R) :
    Calls Try.prog 20 #[rptr b, .int .i64 k, bV x] w fun e w' => PmE G w w' B b mp ma (acS R k x) (acB R k x) e := by
  go_enter Try.func20, Try.ntmps20
  go_upto_region 1 with fail
  obtain ⟨A, hAe, hX, hw⟩ := blk1 w (bC x) 23
  rw [hAe]
  clear hAe
  have hA := h.keep hw
  obtain ⟨c0, c1, c2, c3, c7, c8, c9⟩ := hear_cells hA
  obtain ⟨x0, x1, x2⟩ := cells3 hX
  have hbv := Below.refl A.heap.size A
  go_wp2_with fail
  refine (hears_any R b k x A (c0 _ hbv) (c1 _ hbv) (c2 _ hbv) (c3 _ hbv)).mono ?_
  rintro e W1 ⟨rfl, b1⟩
  have hbv := b1
  have hw1 := ab_trans hw b1
  cases h1 : hearB R k x
  · have HN : Hid (acB R k x = false ∧ acS R k x = R) := ac_no (by unfold acK; rw [h1]; rfl)
    clear h1
    go_wp2_with fail
    go_ret
    exact pme_no h hw1 HN.out.1 HN.out.2
  · by_cases h2 : R.st = 2
    · have z1 : ((R.st : Int) != 2) = false := by rw [h2]; rfl
      have HK : Hid (acK R k x = true) := by show _ = _; unfold acK; rw [h1, h2]; rfl
      obtain ⟨j, rfl, hj, -⟩ := hear_lt h1
      have hok := h.ok
      have hal := hok.al
      have h5 := hok.n5
      have hR1 := hA.keep b1
      obtain ⟨W4, hup, hM4, g4⟩ := hR1.am.put (k := j) (by omega) (by omega)
      have hM5 : Ma W4 ma (acP R (j : Int)) := by unfold acP; rw [Int.toNat_natCast]; exact hM4
      have hR4 := hR1.acc hM5 g4
      have hcl := cntB_le (acP R (j : Int))
      have hcl2 : (acP R (j : Int)).length = R.n := by unfold acP; rw [List.length_set]; exact hal
      generalize hN : cntB (acP R (j : Int)) = N at hcl
      have hlen := fun ty => hR4.am.len ty
      dsimp only at hlen
      rw [hN] at hlen
      have hF4 : Frm (bks b mp ma) w W4 := (frm_below hw1).trans (frm_grown g4 (.inr (.inr rfl)))
      clear h1 hM4 hM5
      go_upto_region 4 with fail
      obtain ⟨d0, -, -, -, d7, d8, d9⟩ := hear_cells hR4
      have hbv := Below.refl W4.heap.size W4
      clear hup c0 c1 c2 c3 c7 c8 c9
      go_wp2_with fail
      refine (rmaj_any b R.n N _ (d0 _ hbv) (by omega)).mono ?_
      rintro e Z ⟨rfl, hZ⟩
      subst Z
      by_cases h3 : R.n < 2 * N
      · have HN : Hid (acB R (j : Int) x = true ∧ acS R (j : Int) x = { R with ac := acP R (j : Int), st := 3 }) := ac_all HK.out (by rw [hN]; exact h3)
        rw [decide_eq_true h3]
        obtain ⟨hR5, F5⟩ := hR4.stg 3
        have f7 : W4.frozen? ⟨b, 7, none⟩ = false := by obtain ⟨vo, vn, vv, hB4, -⟩ := hR4.mem; exact hB4.frozen 7
        go_wp2_with fail
        go_ret
        rw [HN.out.1, HN.out.2]
        exact ⟨rfl, hR5, hF4.trans (F5.mono fun k hk => .inl hk)⟩
      · have HN : Hid (acB R (j : Int) x = false ∧ acS R (j : Int) x = { R with ac := acP R (j : Int) }) := ac_few HK.out (by rw [hN]; exact h3)
        rw [decide_eq_false h3]
        go_wp2_with fail
        go_ret
        rw [HN.out.1, HN.out.2]
        exact ⟨rfl, hR4, hF4⟩
    · have z1 : ((R.st : Int) != 2) = true := by simp; omega
      have HN : Hid (acB R k x = false ∧ acS R k x = R) := ac_no (by unfold acK; rw [decide_eq_false h2]; simp)
      clear h1 h2
      go_wp2_with fail
      go_ret
      exact pme_no h hw1 HN.out.1 HN.out.2
end Go.Proofs.Ytodmhohccclhmaa
namespace Go.Proofs.Ytodmhohccclhmaa
open Go.RowKit
set_option linter.unusedVariables false
set_option maxRecDepth 100000
variable {G : Nat → Prop}

theorem rf_no {R : Rd} {k : Int} {x g : Bt} (h : rfB R k x g = false) : rfS R k x g = R := by unfold rfS; rw [h]; rfl
theorem rf_yes {R : Rd} {k : Int} {x g : Bt} (h : rfB R k x g = true) : rfS R k x g = { R with st := 4, mt := g } := by unfold rfS; rw [h]; rfl
/-- It is lost. -/
theorem Rn.lst {W : World} {B b mp ma : Nat} {R : Rd} (h : Rn G W B b mp ma R) (g : Bt) {W' : World} (hW : W' = (((W.setCell ⟨b, 12, none⟩ (.int .i64 g.n)).setCell ⟨b, 13, none⟩ (.int .i64 g.nd)).setCell ⟨b, 14, none⟩ (.int .i64 g.lf)).setCell ⟨b, 7, none⟩ (.int .i64 4)) :
    Rn G W' B b mp ma { R with st := 4, mt := g } ∧ Frm (bks b mp ma) W W' := by
  subst hW
  obtain ⟨vo, vn, vv, hB, i1, i2, i3⟩ := h.mem
  have F : Frm (fun k => k = b) W _ := frm_chg ((((chg_set W b 12 (.int .i64 g.n)).trans (chg_set _ b 13 (.int .i64 g.nd))).trans (chg_set _ b 14 (.int .i64 g.lf))).trans (chg_set _ b 7 (.int .i64 4))) rfl
  have hNo : NoI (fun k => k = b) W := fun k hk hi => by subst hk; have := hi.uniq hB.kindR; cases this
  exact ⟨⟨h.geb, h.gep, h.gea, h.ne, ⟨vo, vn, vv, (((hB.set 12 _).set 13 _).set 14 _).set 7 _, i1.frm F hNo.g, i2.frm F hNo.g, i3.frm F hNo.g⟩, h.pm.frm F h.neb.1 hNo.g, h.am.frm F h.neb.2, h.ok.lost 4 g⟩, F.mono fun k hk => .inl hk⟩
set_option maxHeartbeats 2000000 in
theorem refused_any (B b mp ma : Nat) (R : Rd) (k : Int) (x g : Bt) (w : World) (h : Rn G w B b mp ma R) :
    Calls Try.prog 21 #[rptr b, .int .i64 k, bV x, bV g] w fun e w' => PmE G w w' B b mp ma (rfS R k x g) (rfB R k x g) e := by
  go_enter Try.func21, Try.ntmps21
  go_upto_region 1 with fail
  obtain ⟨A, hAe, hX, hY, hw⟩ := blk2 w (bC x) (bC g) 23 23
  rw [hAe]
  clear hAe
  have hA := h.keep hw
  obtain ⟨vo, vn, vv, hB, -⟩ := hA.mem
  have e0 : ∀ x : Cls A, x.val.cell? ⟨b, 0, none⟩ = some (.int .i64 (R.n : Int)) := cls_cell (hB.at (i := 0) rfl) hB.lt
  have e1 : ∀ x : Cls A, x.val.cell? ⟨b, 1, none⟩ = some (.int .i64 R.b.n) := cls_cell (hB.at (i := 1) rfl) hB.lt
  have e2 : ∀ x : Cls A, x.val.cell? ⟨b, 2, none⟩ = some (.int .i64 R.b.nd) := cls_cell (hB.at (i := 2) rfl) hB.lt
  have e3 : ∀ x : Cls A, x.val.cell? ⟨b, 3, none⟩ = some (.int .i64 R.b.lf) := cls_cell (hB.at (i := 3) rfl) hB.lt
  have e7 : ∀ x : Cls A, x.val.cell? ⟨b, 7, none⟩ = some (.int .i64 (R.st : Int)) := cls_cell (hB.at (i := 7) rfl) hB.lt
  have x0 : ∀ y : Cls A, y.val.cell? ⟨w.heap.size, 0, none⟩ = some (.int .i64 x.n) := cls_cell (hX.at (i := 0) rfl) hX.lt
  have x1 : ∀ y : Cls A, y.val.cell? ⟨w.heap.size, 1, none⟩ = some (.int .i64 x.nd) := cls_cell (hX.at (i := 1) rfl) hX.lt
  have x2 : ∀ y : Cls A, y.val.cell? ⟨w.heap.size, 2, none⟩ = some (.int .i64 x.lf) := cls_cell (hX.at (i := 2) rfl) hX.lt
  have y0 : ∀ y : Cls A, y.val.cell? ⟨w.heap.size + 1, 0, none⟩ = some (.int .i64 g.n) := cls_cell (hY.at (i := 0) rfl) hY.lt
  have y1 : ∀ y : Cls A, y.val.cell? ⟨w.heap.size + 1, 1, none⟩ = some (.int .i64 g.nd) := cls_cell (hY.at (i := 1) rfl) hY.lt
  have y2 : ∀ y : Cls A, y.val.cell? ⟨w.heap.size + 1, 2, none⟩ = some (.int .i64 g.lf) := cls_cell (hY.at (i := 2) rfl) hY.lt
  have HC : Hid (∀ y : Cls A, Calls Try.prog 33 #[rptr b, .int .i64 k, bV x] y.val fun e w' => e = .returned (.bool (hearB R k x)) ∧ Below y.val.heap.size y.val w') := fun y => hears_any R b k x y.val (e0 y) (e1 y) (e2 y) (e3 y)
  have HZ := cls_some A
  clear hB
  refine wp_region_below (by kernel_rfl) (by kernel_rfl) ?_
  cases h1 : hearB R k x
  · have HN : Hid (rfB R k x g = false) := by show _ = _; unfold rfB; rw [h1]; rfl
    rw [h1] at HC
    repeat (go_big_quiet_step (first
      | (go_at_call 33; exact calls_below (HC.out _))))
    refine wpQuiet_nil ?_
    rintro _ ⟨y, rfl⟩
    obtain ⟨W2, hb⟩ := y
    dsimp only
    clear e0 e1 e2 e3 e7 x0 x1 x2 y0 y1 y2 HC HZ
    go_wp2_with fail
    go_ret
    exact pme_no h (ab_trans hw hb) HN.out (rf_no HN.out)
  · rw [h1] at HC
    have HF : Hid ((R.st = 1 ∨ R.st = 2) → rfB R k x g = lt3 R.b g) := by
      show _ → _
      intro h2
      unfold rfB
      rw [h1]
      rcases h2 with h2 | h2 <;> rw [h2] <;> simp
    by_cases h2 : R.st = 1
    · have z1 : ((R.st : Int) != 1) = false := by rw [h2]; rfl
      have HN : Hid (rfB R k x g = lt3 R.b g) := HF.out (.inl h2)
      clear h2
      repeat (go_big_quiet_step (first
        | (go_at_call 33; exact calls_below (HC.out _))
        | (go_at_call 36; exact calls_below (bless_any R.b g _))))
      refine wpQuiet_nil ?_
      rintro _ ⟨y, rfl⟩
      obtain ⟨W2, hb⟩ := y
      dsimp only
      clear e0 e1 e2 e3 e7 x0 x1 x2 y0 y1 y2 HC HZ
      have hR2 := hA.keep hb
      have hw2 := ab_trans hw hb
      have hY2 := hY.keep hb
      obtain ⟨u0, u1, u2⟩ := cells3 hY2
      have hbv := Below.refl W2.heap.size W2
      cases h3 : lt3 R.b g
      · rw [h3] at HN
        go_wp2_with fail
        go_ret
        exact pme_no h hw2 HN.out (rf_no HN.out)
      · rw [h3] at HN
        obtain ⟨vo, vn, vv, hB2, -⟩ := hR2.mem
        have d12 : W2.cell? ⟨b, 12, none⟩ = some (.int .i64 R.mt.n) := hB2.at (i := 12) rfl
        have d13 : W2.cell? ⟨b, 13, none⟩ = some (.int .i64 R.mt.nd) := hB2.at (i := 13) rfl
        have d14 : W2.cell? ⟨b, 14, none⟩ = some (.int .i64 R.mt.lf) := hB2.at (i := 14) rfl
        have d7 : W2.cell? ⟨b, 7, none⟩ = some (.int .i64 (R.st : Int)) := hB2.at (i := 7) rfl
        have f12 := hB2.frozen 12
        have f13 := hB2.frozen 13
        have f14 := hB2.frozen 14
        have f7 := hB2.frozen 7
        clear hB2
        go_wp2_with fail
        go_ret
        rw [rf_yes HN.out, HN.out]
        obtain ⟨hR5, F5⟩ := hR2.lst g rfl
        exact ⟨rfl, hR5, (frm_below hw2).trans F5⟩
    · have z1 : ((R.st : Int) != 1) = true := by simp; omega
      by_cases h4 : R.st = 2
      · have z2 : ((R.st : Int) != 2) = false := by rw [h4]; rfl
        have HN : Hid (rfB R k x g = lt3 R.b g) := HF.out (.inr h4)
        clear h2 h4
        repeat (go_big_quiet_step (first
          | (go_at_call 33; exact calls_below (HC.out _))
          | (go_at_call 36; exact calls_below (bless_any R.b g _))))
        refine wpQuiet_nil ?_
        rintro _ ⟨y, rfl⟩
        obtain ⟨W2, hb⟩ := y
        dsimp only
        clear e0 e1 e2 e3 e7 x0 x1 x2 y0 y1 y2 HC HZ
        have hR2 := hA.keep hb
        have hw2 := ab_trans hw hb
        have hY2 := hY.keep hb
        obtain ⟨u0, u1, u2⟩ := cells3 hY2
        have hbv := Below.refl W2.heap.size W2
        cases h3 : lt3 R.b g
        · rw [h3] at HN
          go_wp2_with fail
          go_ret
          exact pme_no h hw2 HN.out (rf_no HN.out)
        · rw [h3] at HN
          obtain ⟨vo, vn, vv, hB2, -⟩ := hR2.mem
          have d12 : W2.cell? ⟨b, 12, none⟩ = some (.int .i64 R.mt.n) := hB2.at (i := 12) rfl
          have d13 : W2.cell? ⟨b, 13, none⟩ = some (.int .i64 R.mt.nd) := hB2.at (i := 13) rfl
          have d14 : W2.cell? ⟨b, 14, none⟩ = some (.int .i64 R.mt.lf) := hB2.at (i := 14) rfl
          have d7 : W2.cell? ⟨b, 7, none⟩ = some (.int .i64 (R.st : Int)) := hB2.at (i := 7) rfl
          have f12 := hB2.frozen 12
          have f13 := hB2.frozen 13
          have f14 := hB2.frozen 14
          have f7 := hB2.frozen 7
          clear hB2
          go_wp2_with fail
          go_ret
          rw [rf_yes HN.out, HN.out]
          obtain ⟨hR5, F5⟩ := hR2.lst g rfl
          exact ⟨rfl, hR5, (frm_below hw2).trans F5⟩
      · have z2 : ((R.st : Int) != 2) = true := by simp; omega
        have HN : Hid (rfB R k x g = false) := by show _ = _; unfold rfB; rw [decide_eq_false h2, decide_eq_false h4]; simp
        clear h2 h4
        repeat (go_big_quiet_step (first
          | (go_at_call 33; exact calls_below (HC.out _))))
        refine wpQuiet_nil ?_
        rintro _ ⟨y, rfl⟩
        obtain ⟨W2, hb⟩ := y
        dsimp only
        clear e0 e1 e2 e3 e7 x0 x1 x2 y0 y1 y2 HC HZ
        go_wp2_with fail
        go_ret
        exact pme_no h (ab_trans hw hb) HN.out (rf_no HN.out)
set_option maxHeartbeats 1000000 in
theorem promise_nil (k : Int) (x p a : Bt) (q : Option Addr) (n c : Nat) (w : World) :
    Calls Try.prog 19 #[.pointer none, .int .i64 k, bV x, rV p a (.slice q n c)] w fun e w' => e = .returned (.bool false) ∧ Below w.heap.size w w' := by
  go_enter Try.func19, Try.ntmps19
  go_upto_region 1 with fail
  obtain ⟨A, hAe, hX, hY, hw⟩ := blk2 w (bC x) (rC p a (.slice q n c)) 23 61
  rw [hAe]
  clear hAe
  obtain ⟨x0, x1, x2⟩ := cells3 hX
  have hbv := Below.refl A.heap.size A
  go_wp2_with fail
  refine (hears_nil k x _).mono ?_
  rintro e W1 ⟨rfl, b1⟩
  go_wp2_with fail
  go_ret
  exact ⟨rfl, ab_trans hw b1⟩
set_option maxHeartbeats 1000000 in
theorem accepted_nil (k : Int) (x : Bt) (w : World) :
    Calls Try.prog 20 #[.pointer none, .int .i64 k, bV x] w fun e w' => e = .returned (.bool false) ∧ Below w.heap.size w w' := by
  go_enter Try.func20, Try.ntmps20
  go_upto_region 1 with fail
  obtain ⟨A, hAe, hX, hw⟩ := blk1 w (bC x) 23
  rw [hAe]
  clear hAe
  obtain ⟨x0, x1, x2⟩ := cells3 hX
  have hbv := Below.refl A.heap.size A
  go_wp2_with fail
  refine (hears_nil k x _).mono ?_
  rintro e W1 ⟨rfl, b1⟩
  go_wp2_with fail
  go_ret
  exact ⟨rfl, ab_trans hw b1⟩
set_option maxHeartbeats 1000000 in
theorem refused_nil (k : Int) (x g : Bt) (w : World) :
    Calls Try.prog 21 #[.pointer none, .int .i64 k, bV x, bV g] w fun e w' => e = .returned (.bool false) ∧ Below w.heap.size w w' := by
  go_enter Try.func21, Try.ntmps21
  go_upto_region 1 with fail
  obtain ⟨A, hAe, hX, hY, hw⟩ := blk2 w (bC x) (bC g) 23 23
  rw [hAe]
  clear hAe
  have x0 : ∀ y : Cls A, y.val.cell? ⟨w.heap.size, 0, none⟩ = some (.int .i64 x.n) := cls_cell (hX.at (i := 0) rfl) hX.lt
  have x1 : ∀ y : Cls A, y.val.cell? ⟨w.heap.size, 1, none⟩ = some (.int .i64 x.nd) := cls_cell (hX.at (i := 1) rfl) hX.lt
  have x2 : ∀ y : Cls A, y.val.cell? ⟨w.heap.size, 2, none⟩ = some (.int .i64 x.lf) := cls_cell (hX.at (i := 2) rfl) hX.lt
  have HZ := cls_some A
  refine wp_region_below (by kernel_rfl) (by kernel_rfl) ?_
  repeat (go_big_quiet_step (first
    | (go_at_call 33; exact calls_below (hears_nil k x _))))
  refine wpQuiet_nil ?_
  rintro _ ⟨y, rfl⟩
  obtain ⟨W2, hb⟩ := y
  dsimp only
  clear x0 x1 x2 HZ
  go_wp2_with fail
  go_ret
  exact ⟨rfl, ab_trans hw hb⟩
end Go.Proofs.Ytodmhohccclhmaa
