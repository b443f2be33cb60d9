/-
  The document's Promise.
-/
import Derived.Test.YtodmhohccclhmaaPk21
namespace Go.Proofs.Ytodmhohccclhmaa
open Go.RowKit
set_option linter.unusedVariables false
set_option maxRecDepth 100000

theorem ro_rowS {W : World} {base n c : Nat} {q : Option Addr} {os : List RrD} (h : Ro W base (.slice q n c) os) (hc : ∀ r ∈ os, Is W r.v r.l) (hz : ∀ r ∈ os, r.l.length ≤ 17592186043904) : ∃ g, RrRow W q n c g 0 os := by
  rcases h.2 with ⟨h1, h2⟩ | ⟨g, cap, cur, h1, hb, hg, h3, h4, h5, h6⟩
  · cases h1
    have : os = [] := List.eq_nil_of_length_eq_zero h2
    subst this
    exact ⟨0, rfl, by omega, by omega, fun h => absurd h (by omega), fun h => absurd h (by omega), fun j x hx => by simp at hx⟩
  · cases h1
    have hcell : ∀ j u, (flR os)[j]? = some u → W.cell? ⟨g, j, none⟩ = some u := by
      intro j u hu
      have hj : j < (flR os).length := (List.getElem?_eq_some_iff.1 hu).1
      rw [cell_of_row W g j cur 61 (0, 0) hg]
      have hl := h.1
      rw [← h6, List.getElem?_take_of_lt (by omega)] at hu
      simpa using hu
    refine ⟨g, rfl, h3, by unfold maxLen at h4; omega, fun _ => rfl, fun _ => (Array.getElem?_eq_some_iff.1 hg).1, fun j x hx => ?_⟩
    rw [Nat.zero_add]
    have hm := List.mem_of_getElem? hx
    exact ⟨hcell _ _ (flR_at (i := 0) hx (by omega)), hcell _ _ (flR_at (i := 1) hx (by omega)), hcell _ _ (flR_at (i := 2) hx (by omega)), hcell _ _ (flR_at (i := 3) hx (by omega)), hcell _ _ (flR_at (i := 4) hx (by omega)), hcell _ _ (flR_at (i := 5) hx (by omega)), hcell _ _ (flR_at (i := 6) hx (by omega)), hc x hm, hz x hm⟩
theorem stM {P : Program} {o : Oper} {a : Act} {w : World} {K : Act → World → Prop} {Q : Exit → Act → World → Prop} (d : Option Tmp) (hd : o.dst = d) (ty : TypeId) (x y : Operand) (ho : o.op = .store ty x y) (b i : Nat) (cells : Array Value) (hx : a.eval x = .pointer (some ⟨b, i, none⟩)) (hy : a.eval y = .agg cells)
    (ht : w.there b i cells.size) (hi : (P.info? ty).map (·.size) = some cells.size) (h1 : cells.all (·.oneCell') = true) (h : K (a.put d undef) (w.setCells b i cells.toList)) : o.wp P a w K Q := by
  subst hd
  exact wp_store_mid ty x y ho b i cells hx hy ht hi h1 h
theorem ab_trans' {W0 A B : World} (h : Below W0.heap.size W0 A) (k : Below A.heap.size A B) : Below W0.heap.size W0 B := h.trans (k.mono h.size)
theorem has_set (pr : List (Option (Bt × List Int))) (j : Nat) (x : Bt × List Int) : hasL (pr.set j (some x)) = (hasL pr).set j true := by
  unfold hasL
  rw [List.map_set]
  rfl
theorem has_at {pr : List (Option (Bt × List Int))} {j : Nat} {y : Option (Bt × List Int)} (h : pr[j]? = some y) : (hasL pr)[j]? = some y.isSome := by
  unfold hasL
  rw [List.getElem?_map, h]
  rfl
theorem rgs_set {W0 : World} {os : List RrD} {pr : List (Option (Bt × List Int))} (h : RgsOK W0 os pr) {j : Nat} {p a : Bt} {v : Value} {l : List Int} (hv : Is W0 v l) (hj : j < os.length) : RgsOK W0 (os.set j ⟨p, a, v, l⟩) (pr.set j (some (a, l))) := by
  refine ⟨by rw [List.length_set, List.length_set]; exact h.len, fun k a' l' hk => ?_⟩
  by_cases e : k = j
  · subst e
    rw [List.getElem?_set_self (by rw [← h.len]; exact hj)] at hk
    cases hk
    exact ⟨_, List.getElem?_set_self hj, rfl, hv⟩
  · rw [List.getElem?_set_ne (fun e' => e e'.symm)] at hk ⊢
    exact h.at' k a' l' hk
theorem slr_set {os : List RrD} (h : SlR os) {j : Nat} {r : RrD} (hr : ∃ q n c, r.v = .slice q n c) : SlR (os.set j r) := by
  intro x hx
  rcases List.mem_or_eq_of_mem_set hx with e | e
  · exact h x e
  · subst e; exact hr
/-- A promise more. -/
theorem Drn.prs {W0 W W1 W2 : World} {B d g1 g2 g3 : Nat} {R : Rd} (h : Drn W0 W B d g1 g2 g3 R) {j : Nat} {p a : Bt} {v : Value} {l : List Int} (hv : Is W0 v l) (hl : l.length ≤ 1000) (hx : R.pr[j]? = some none) (hs : ∃ q n c, v = .slice q n c)
    (c1 : Chg g1 W W1) (B1 : Blk W1 g1 (bls ((hasL R.pr).set j true)) 4) {os : List RrD} (hos : Blk W g2 (flR os).toArray 61) (hr : RgsOK W0 os R.pr) (hsl : SlR os) (c2 : Chg g2 W1 W2) (B2 : Blk W2 g2 (flR (os.set j ⟨p, a, v, l⟩)).toArray 61) :
    Drn W0 W2 B d g1 g2 g3 { R with pr := pmP R (j : Int) a l } := by
  obtain ⟨n1, n2, n3, n4, n5⟩ := h.ned
  obtain ⟨vo, vn, vv, hB0, i1, i2, i3⟩ := h.mem
  have hj : j < os.length := by rw [hr.len]; exact (List.getElem?_eq_some_iff.1 hx).1
  have e : pmP R (j : Int) a l = R.pr.set j (some (a, l)) := by unfold pmP; rw [Int.toNat_natCast]
  refine ⟨h.ged, h.ge1, h.ge2, h.ge3, h.ne, ⟨vo, vn, vv, (hB0.chg c1 (fun e => n1 e.symm)).chg c2 (fun e => n2 e.symm), i1, i2, i3⟩, ?_, ⟨_, B2, ?_, slr_set hsl hs⟩, (h.did.chg c1 (fun e => h.ne e.symm)).chg c2 (fun e => n5 e.symm), h.ok.put hl, ?_, h.le, h.s1⟩
  · show Blk W2 g1 (bls (hasL (pmP R (j : Int) a l))) _
    rw [e, has_set]
    exact B1.chg c2 (fun e => n4 e.symm)
  · show RgsOK W0 _ (pmP R (j : Int) a l)
    rw [e]
    exact rgs_set hr hv hj
  · exact (h.old.trans (c1.below (Nat.le_trans h.le h.ge1))).trans (c2.below (Nat.le_trans h.le h.ge2))
set_option maxHeartbeats 4000000 in
theorem rpromise_any (W0 : World) (B d g1 g2 g3 : Nat) (R : Rd) (k : Int) (x p a : Bt) (v : Value) (l : List Int) (w : World) (h : Drn W0 w B d g1 g2 g3 R) (hv : Is W0 v l) (hl : l.length ≤ 1000) :
    Calls Try.prog 26 #[dptr d, .int .i64 k, bV x, rV p a v] w fun e w' => DrE W0 w w' B d g1 g2 g3 (pmS R k x a l) (pmB R k x) e := by
  obtain ⟨q, c, e⟩ := hv.form
  subst e
  obtain ⟨n, hn⟩ : ∃ n, l.length = n := ⟨_, rfl⟩
  rw [hn] at hv ⊢
  go_enter Try.func26, Try.ntmps26
  go_upto_region 1 with fail
  obtain ⟨A, hAe, hX, hY, hw⟩ := blk2 w (bC x) (rC p a (.slice q n c)) 23 61
  rw [hAe]
  clear hAe
  have hA := h.keep hw
  obtain ⟨vo, vn, vv, hB, -⟩ := hA.mem
  have e0 : ∀ y : Cls A, y.val.cell? ⟨d, 0, none⟩ = some (.int .i64 (R.n : Int)) := cls_cell (hB.at (i := 0) rfl) hB.lt
  have e1 : ∀ y : Cls A, y.val.cell? ⟨d, 1, none⟩ = some (.int .i64 R.b.n) := cls_cell (hB.at (i := 1) rfl) hB.lt
  have e2 : ∀ y : Cls A, y.val.cell? ⟨d, 2, none⟩ = some (.int .i64 R.b.nd) := cls_cell (hB.at (i := 2) rfl) hB.lt
  have e3 : ∀ y : Cls A, y.val.cell? ⟨d, 3, none⟩ = some (.int .i64 R.b.lf) := cls_cell (hB.at (i := 3) rfl) hB.lt
  have e7 : ∀ y : Cls A, y.val.cell? ⟨d, 7, none⟩ = some (.int .i64 (R.st : Int)) := cls_cell (hB.at (i := 7) rfl) hB.lt
  have e8 : ∀ y : Cls A, y.val.cell? ⟨d, 8, none⟩ = some (.slice (some ⟨g1, 0, none⟩) R.n R.n) := cls_cell (hB.at (i := 8) rfl) hB.lt
  have x0 : ∀ y : Cls A, y.val.cell? ⟨w.heap.size, 0, none⟩ = some (.int .i64 x.n) := cls_cell (hX.at (i := 0) rfl) hX.lt
  have x1 : ∀ y : Cls A, y.val.cell? ⟨w.heap.size, 1, none⟩ = some (.int .i64 x.nd) := cls_cell (hX.at (i := 1) rfl) hX.lt
  have x2 : ∀ y : Cls A, y.val.cell? ⟨w.heap.size, 2, none⟩ = some (.int .i64 x.lf) := cls_cell (hX.at (i := 2) rfl) hX.lt
  have HZ := cls_some A
  have HE : ∀ w, _ := neBt x R.b
  clear hB
  refine wp_region_below (by kernel_rfl) (by kernel_rfl) ?_
  by_cases k1 : 0 ≤ k
  · have i1 : ¬ k < 0 := by omega
    by_cases k2 : k < (R.n : Int)
    · have i2 : ¬ (R.n : Int) ≤ k := by omega
      cases h1 : eqB x R.b
      · rw [h1] at HE
        have HH : Hid (hearB R k x = false) := by show _ = _; unfold hearB; rw [h1]; rfl
        clear h1
        repeat (go_big_quiet_step (fail))
        refine wpQuiet_nil ?_
        rintro _ ⟨y, rfl⟩
        obtain ⟨W2, hb⟩ := y
        dsimp only
        clear e0 e1 e2 e3 e7 e8 x0 x1 x2 HZ HE
        go_wp2_with fail
        go_ret
        exact dre_no h (ab_trans hw hb) (pm_no (a := a) (l := l) (pmK_deaf HH.out)).1 (pm_no (pmK_deaf HH.out)).2
      · rw [h1] at HE
        have HH : Hid (hearB R k x = true) := hear_yes h1 k1 k2
        clear h1
        by_cases h2 : R.st = 1
        · have j1 : ((R.st : Int) != 1) = false := by rw [h2]; rfl
          obtain ⟨j, rfl⟩ : ∃ j : Nat, k = (j : Int) := ⟨k.toNat, by omega⟩
          have hjn : j < R.n := by omega
          have hok := h.ok
          have hpl := hok.pl
          have h5 := hok.n5
          have hjp : j < R.pr.length := by omega
          have hH := hA.has
          cases hx : R.pr[j]? with
          | none => rw [List.getElem?_eq_none_iff] at hx; omega
          | some y =>
            have z0 : ∀ y' : Cls A, y'.val.cell? ⟨g1, j, none⟩ = some (.bool y.isSome) := cls_cell (hH.at (bls_at (has_at hx))) hH.lt
            cases y with
            | some y =>
              obtain ⟨a', l'⟩ := y
              have HN : Hid (pmB R (j : Int) x = false ∧ pmS R (j : Int) x a l = R) := pm_no (by unfold pmK; rw [(prsd_iff hjp).2.2 ⟨a', l', hx⟩]; simp)
              have z0 : ∀ y' : Cls A, y'.val.cell? ⟨g1, j, none⟩ = some (.bool true) := z0
              clear h2 hx
              repeat (go_big_quiet_step (fail))
              refine wpQuiet_nil ?_
              rintro _ ⟨y, rfl⟩
              obtain ⟨W2, hb⟩ := y
              dsimp only
              clear e0 e1 e2 e3 e7 e8 x0 x1 x2 z0 HZ HE
              go_wp2_with fail
              go_ret
              exact dre_no h (ab_trans hw hb) HN.out.1 HN.out.2
            | none =>
              have HK : Hid (pmK R (j : Int) x = true) := pmK_yes HH.out h2 hx
              have z0 : ∀ y' : Cls A, y'.val.cell? ⟨g1, j, none⟩ = some (.bool false) := z0
              clear h2
              repeat (go_big_quiet_step (fail))
              refine wpQuiet_nil ?_
              rintro _ ⟨y, rfl⟩
              obtain ⟨W2, hb⟩ := y
              dsimp only
              clear e0 e1 e2 e3 e7 e8 x0 x1 x2 z0 HZ HE
              have hR2 := hA.keep hb
              have hw2 := ab_trans hw hb
              have hY2 := hY.keep hb
              obtain ⟨vo, vn, vv, hB2, I1, I2, I3⟩ := hR2.mem
              obtain ⟨os, hos, hrg, hsl⟩ := hR2.reg
              have hH2 := hR2.has
              have hol : os.length = R.n := by rw [hrg.len]; exact hpl
              obtain ⟨n1, n2, n3, n4, n5⟩ := hR2.ned
              have d8 : W2.cell? ⟨d, 8, none⟩ = some (.slice (some ⟨g1, 0, none⟩) R.n R.n) := hB2.at (i := 8) rfl
              have z1 : W2.cell? ⟨g1, j, none⟩ = some (.bool false) := hH2.at (bls_at (has_at hx))
              have f1 := hH2.frozen j
              clear hY hX
              go_upto_region 4 with fail
              have hH3 : Blk (W2.setCell ⟨g1, j, none⟩ (.bool true)) g1 (bls ((hasL R.pr).set j true)) 4 := by
                have := hH2.set j (.bool true)
                rw [bls_set] at this
                exact this
              have C3 := chg_set W2 g1 j (.bool true)
              generalize W2.setCell ⟨g1, j, none⟩ (.bool true) = W3 at hH3 C3 ⊢
              have hY3 := hY2.chg C3 (blk_ne hY2 hH2 (by decide))
              have hB3 := hB2.chg C3 (fun e => n1 e.symm)
              have hos3 := hos.chg C3 n4
              clear d8 z1 f1
              have hgY : w.heap.size + 1 ≠ g2 := by obtain ⟨os0, ho0, -⟩ := h.reg; have := ho0.lt; omega
              have D : ∀ W, Frm (fun i => i = g2) W3 W → Blk W d (rfC R vo vn vv g1 g2 g3) 92 ∧ Blk W (w.heap.size + 1) (rC p a (.slice q n c)) 61 := fun W hF => ⟨hB3.frm hF (fun e => n2 e.symm), hY3.frm hF hgY⟩
              refine wp_region_held_drew (S := fun w' => Frm (fun i => i = g2) W3 w') (by kernel_rfl) (frm_below (ab_drew (Below.refl _ _))) (fun hHeld => ?_)
              refine takeH (i := 0) (some 53) rfl rfl (by kernel_rfl) (by kernel_rfl) (by kernel_rfl) (fun _ _ _ h => h) (by rfl) (fun w hSw => by (try dsimp only at hSw); go_simp; try rfl) hHeld ?_
              go_frame
              refine takeH (i := 1) (some 54) rfl rfl (by kernel_rfl) (by kernel_rfl) (by kernel_rfl) (fun _ _ _ h => h) (by rfl) (fun w hSw => by (try dsimp only at hSw); go_simp; try rfl) hHeld ?_
              go_frame
              refine takeH (i := 2) (some 55) rfl rfl (by kernel_rfl) (by kernel_rfl) (by kernel_rfl) (fun _ _ _ h => h) (by rfl) (fun w hSw => by (try dsimp only at hSw); go_simp; try rfl) hHeld ?_
              go_frame
              refine takeH (i := 3) (some 56) rfl rfl (by kernel_rfl) (by kernel_rfl) (by kernel_rfl) (fun _ _ _ h => h) (by rfl) (fun w hSw => by (try dsimp only at hSw); have hh := (D _ hSw).1; have y0 := hh.at (i := 9) rfl; go_simp; try rfl) hHeld ?_
              go_frame
              refine takeH (i := 4) (some 57) rfl rfl (by kernel_rfl) (by kernel_rfl) (by kernel_rfl) (fun _ _ _ h => h) (by rfl) (fun w hSw => by (try dsimp only at hSw); go_simp; try rfl) hHeld ?_
              go_frame
              refine takeH (i := 5) (some 58) rfl rfl (by kernel_rfl) (by kernel_rfl) (by kernel_rfl) (fun _ _ _ h => h) (by rfl) (fun w hSw => by (try dsimp only at hSw); have hh := (D _ hSw).2; have y0 := hh.at (i := 0) rfl; have y1 := hh.at (i := 1) rfl; have y2 := hh.at (i := 2) rfl; have y3 := hh.at (i := 3) rfl; have y4 := hh.at (i := 4) rfl; have y5 := hh.at (i := 5) rfl; have y6 := hh.at (i := 6) rfl; go_simp; try rfl) hHeld ?_
              go_frame
              refine takeH (i := 6) (some 59) rfl rfl (by kernel_rfl) (by kernel_rfl) (by kernel_rfl) (fun _ _ _ h => h) (by rfl) (fun w hSw => by (try dsimp only at hSw); go_simp; try rfl) hHeld ?_
              go_frame
              refine wpAnyH_ready (rs := [7]) (by kernel_rfl) (by simp) (AllReadyH.cons rfl (fun K hK => ?_) AllReadyH.nil)
              rw [if_pos (by rfl)]
              obtain ⟨s1, s2, s3⟩ := rg_stored hos3.drew (m := j) (by omega) ⟨p, a, .slice q n c, l⟩
              refine stM none rfl 61 _ _ rfl g2 (j * 7) (rC p a (.slice q n c)) rfl rfl s3 (info_rg _ _ _) (rg_one _ _ _ _ _) ?_
              have C4 : Chg g2 W3 _ := (show Chg g2 W3 W3.drew from ⟨rfl, rfl, rfl, rfl, fun _ _ => rfl⟩).trans s2
              have hR4 := hR2.prs (p := p) hv hl hx ⟨_, _, _, rfl⟩ C3 hH3 hos hrg hsl C4 s1
              refine hK.out _ _ (frm_chg C4 rfl) (fun hHeld => ?_)
              clear hK K
              generalize W3.drew.setCells g2 (j * 7) _ = W4 at *
              simp only [Act.put]
              refine wpAnyH_done (by kernel_rfl) ?_ _
              have hF4 : Frm (bkr d g1 g2 g3) w W4 := ((frm_below hw2).trans (frm_chg C3 (.inr (.inl rfl)))).trans (frm_chg C4 (.inr (.inr (.inl rfl))))
              clear D hB2 hB3 hos3 hY3 hY2 hos hrg hsl hH2 hH3 C3 C4 s1 s2 s3 hHeld I1 I2 I3 hR2 hA
              have hcnt : cntO (pmP R (j : Int) a l) = cntO R.pr + 1 := by unfold pmP; rw [Int.toNat_natCast]; exact cntO_set _ hx
              have hpl2 : (pmP R (j : Int) a l).length = R.n := by unfold pmP; rw [List.length_set]; exact hpl
              have hcl := cntO_le R.pr
              have HC : Hid (∀ y : Cls W4, Calls Try.prog 40 #[.slice (some ⟨g1, 0, none⟩) R.n R.n] y.val fun e w' => e = .returned (.int .i64 ((cntO R.pr + 1 : Nat) : Int)) ∧ Below y.val.heap.size y.val w') := fun y => by
                have := count_any g1 R.n _ y.val (hR4.has.keep y.prop) (by unfold hasL; rw [List.length_map]; exact hpl2) (by omega)
                rw [cnt_has] at this
                dsimp only at this
                rw [hcnt] at this
                exact this
              generalize hN : cntO R.pr + 1 = N at HC
              obtain ⟨vo4, vn4, vv4, hB4, J1, J2, J3⟩ := hR4.mem
              have e0 : ∀ y : Cls W4, y.val.cell? ⟨d, 0, none⟩ = some (.int .i64 (R.n : Int)) := cls_cell (hB4.at (i := 0) rfl) hB4.lt
              have e8 : ∀ y : Cls W4, y.val.cell? ⟨d, 8, none⟩ = some (.slice (some ⟨g1, 0, none⟩) R.n R.n) := cls_cell (hB4.at (i := 8) rfl) hB4.lt
              have HZ := cls_some W4
              go_upto_region 5 with fail
              refine wp_region_below (by kernel_rfl) (by kernel_rfl) ?_
              repeat (go_big_quiet_step (first
                | (go_at_call 40; exact calls_below (HC.out _))))
              refine wpQuiet_nil ?_
              rintro _ ⟨y, rfl⟩
              obtain ⟨W5, b5⟩ := y
              dsimp only
              clear e0 e8 HC HZ
              have hR5 := hR4.keep b5
              have hF5 : Frm (bkr d g1 g2 g3) w W5 := hF4.trans (frm_below b5)
              have hB5 := hB4.keep b5
              clear hB4 hR4 hF4
              by_cases h3 : R.n < 2 * N
              · have HN : Hid (pmB R (j : Int) x = true ∧ pmS R (j : Int) x a l = tellR { R with pr := pmP R (j : Int) a l }) := pm_all HK.out (by omega)
                have t1 : ¬ 2 * N ≤ R.n := by omega
                have t2 : ¬ (2 * (N : Int) ≤ (R.n : Int)) := by omega
                obtain ⟨os5, hos5, hrg5, -⟩ := hR5.reg
                have hH5 := hR5.has
                have hsz5 := hR5.ok.sz
                have hold5 := hR5.old
                have hokT := hR5.ok.tell
                dsimp only at hrg5 hH5 hsz5 J1 J2 J3
                obtain ⟨P, hP⟩ : ∃ P, P = pmP R (j : Int) a l := ⟨_, rfl⟩
                rw [← hP] at hrg5 hH5 hsz5 hpl2
                have hol5 : os5.length = R.n := by rw [hrg5.len]; exact hpl2
                have c0 : ∀ V, Below W5.heap.size W5 V → V.cell? ⟨d, 0, none⟩ = some (.int .i64 (R.n : Int)) := hB5.cellV (i := 0) rfl
                have c8 : ∀ V, Below W5.heap.size W5 V → V.cell? ⟨d, 8, none⟩ = some (.slice (some ⟨g1, 0, none⟩) R.n R.n) := hB5.cellV (i := 8) rfl
                have c9 : ∀ V, Below W5.heap.size W5 V → V.cell? ⟨d, 9, none⟩ = some (.slice (some ⟨g2, 0, none⟩) R.n R.n) := hB5.cellV (i := 9) rfl
                clear t1 t2
                go_upto_region 7 with fail
                go_wp2_with fail
                go_loopw [9, 10] (fun lv iv wr => ∃ (jj : Nat) (os' : List RrD), jj ≤ R.n ∧ iv = .int .i64 (jj : Int) ∧ Ro wr W5.heap.size lv os' ∧ (∀ r ∈ os', Is W0 r.v r.l) ∧ os'.map keyR = (P.take jj).filterMap id ∧ os'.length ≤ jj ∧ Below W5.heap.size W5 wr) (fun lv iv _ => R.n - (intOf iv).toNat)
                case atStart => exact ⟨0, [], by omega, rfl, ⟨rfl, .inl ⟨rfl, rfl⟩⟩, (fun r hr => by simp at hr), rfl, Nat.le_refl _, Below.refl _ _⟩
                case round =>
                  obtain ⟨jj, os', hjj, rfl, hO, hI, hKy, hol', hbr⟩ := hrel
                  by_cases cj : jj = R.n
                  · obtain ⟨qo, co, eo⟩ := ro_form hO
                    subst eo
                    have HK2 : Hid (os'.map keyR = P.filterMap id) := by show _ = _; rw [hKy, cj, ← hpl2, List.take_length]
                    have hz : ∀ r ∈ os', r.l.length ≤ 17592186043904 := by
                      intro r hr
                      have h1 : keyR r ∈ P.filterMap id := by rw [← HK2.out]; exact List.mem_map_of_mem hr
                      rw [List.mem_filterMap] at h1
                      obtain ⟨y, hy, hy2⟩ := h1
                      simp only [id] at hy2
                      subst hy2
                      have := hsz5 _ _ hy
                      omega
                    have holdr := ab_trans' hold5 hbr
                    obtain ⟨go, hRow⟩ := ro_rowS hO (fun r hr => (hI r hr).keep holdr) hz
                    have hnw : nwL os' = nwV P := nw_keys HK2.out
                    generalize os'.length = no at hRow
                    have i9 : ¬ (jj : Int) < (R.n : Int) := by omega
                    have i10 : ¬ jj < R.n := by omega
                    clear hO hKy hz hol' cj
                    go_upto_region 13 with fail
                    have D : ∀ W, Below wr.heap.size wr W → Blk W d (rfC { R with pr := pmP R (j : Int) a l } vo4 vn4 vv4 g1 g2 g3) 92 := fun W hb => hB5.keep (ab_trans hbr hb)
                    refine wp_region_held_drew (S := fun w' => Below wr.heap.size wr w') (by kernel_rfl) (ab_drew (Below.refl _ _)) (fun hHeld => ?_)
                    refine takeH (i := 0) (some 97) rfl rfl (by kernel_rfl) (by kernel_rfl) (by kernel_rfl) (fun _ _ _ h => h) (by rfl) (fun w hSw => by (try dsimp only at hSw); go_simp; try rfl) hHeld ?_
                    go_frame
                    refine takeH (i := 1) (some 98) rfl rfl (by kernel_rfl) (by kernel_rfl) (by kernel_rfl) (fun _ _ _ h => h) (by rfl) (fun w hSw => by (try dsimp only at hSw); go_simp; try rfl) hHeld ?_
                    go_frame
                    refine takeH (i := 2) (some 99) rfl rfl (by kernel_rfl) (by kernel_rfl) (by kernel_rfl) (fun _ _ _ h => h) (by rfl) (fun w hSw => by (try dsimp only at hSw); go_simp; try rfl) hHeld ?_
                    go_frame
                    refine takeH (i := 3) (some 100) rfl rfl (by kernel_rfl) (by kernel_rfl) (by kernel_rfl) (fun _ _ _ h => h) (by rfl) (fun w hSw => by (try dsimp only at hSw); have hh := D _ hSw; have y4 := hh.at (i := 4) rfl; have y5 := hh.at (i := 5) rfl; have y6 := hh.at (i := 6) rfl; go_simp; try rfl) hHeld ?_
                    go_frame
                    refine takeH (i := 4) (some 101) rfl rfl (by kernel_rfl) (by kernel_rfl) (by kernel_rfl) (fun _ _ _ h => h) (by rfl) (fun w hSw => by (try dsimp only at hSw); go_simp; try rfl) hHeld ?_
                    go_frame
                    refine wpAnyH_ready (rs := [5]) (by kernel_rfl) (by simp) (AllReadyH.cons rfl (fun K hK => ?_) AllReadyH.nil)
                    go_simp
                    refine (newestR_in W0 qo no co go 0 os' _ (hRow.keep hHeld) hI).mono ?_
                    rintro e W6 ⟨v6, rfl, hO6, b6⟩
                    show K _ _
                    rw [hnw] at hO6
                    have hb6 := ab_trans hHeld b6
                    refine hK.out _ _ hb6 (fun hHeld => ?_)
                    clear hK K
                    refine wpAnyH_ready (rs := [6]) (by kernel_rfl) (by simp) (AllReadyH.cons rfl (fun K hK => ?_) AllReadyH.nil)
                    go_simp
                    refine (gdoR_in W0 R.c vo4 vn4 v6 (nwV P) W6 (ab_trans' holdr hb6) J1 J2 hO6).mono ?_
                    rintro e W7 ⟨⟨q7, n7, c7, rfl, hO7, hn7⟩, b7⟩
                    show K _ _
                    have hb7 := ab_trans hb6 b7
                    refine hK.out _ _ hb7 (fun hHeld => ?_)
                    clear hK K
                    refine takeH (i := 7) (some 96) rfl rfl (by kernel_rfl) (by kernel_rfl) (by kernel_rfl) (fun _ _ _ h => h) (by rfl) (fun w hSw => by (try dsimp only at hSw); go_simp; try rfl) hHeld ?_
                    go_frame
                    refine takeH (i := 8) (some 104) rfl rfl (by kernel_rfl) (by kernel_rfl) (by kernel_rfl) (fun _ _ _ h => h) (by rfl) (fun w hSw => by (try dsimp only at hSw); go_simp; try rfl) hHeld ?_
                    go_frame
                    refine takeH (i := 9) (some 105) rfl rfl (by kernel_rfl) (by kernel_rfl) (by kernel_rfl) (fun _ _ _ h => h) (by rfl) (fun w hSw => by (try dsimp only at hSw); go_simp; try rfl) hHeld ?_
                    go_frame
                    refine takeH (i := 10) (some 11) rfl rfl (by kernel_rfl) (by kernel_rfl) (by kernel_rfl) (fun _ _ _ h => h) (by rfl) (fun w hSw => by (try dsimp only at hSw); go_simp; try rfl) hHeld ?_
                    go_frame
                    refine takeH (i := 11) (some 12) rfl rfl (by kernel_rfl) (by kernel_rfl) (by kernel_rfl) (fun _ _ _ h => h) (by rfl) (fun w hSw => by (try dsimp only at hSw); go_simp; try rfl) hHeld ?_
                    go_frame
                    refine wpAnyH_done (by kernel_rfl) ?_ _
                    have hB7 := D _ hb7
                    have hR7 := hR5.keep (ab_trans hbr hb7)
                    have hF7 : Frm (bkr d g1 g2 g3) w W7 := hF5.trans (frm_below (ab_trans hbr hb7))
                    have d11 : W7.cell? ⟨d, 11, none⟩ = some vv4 := hB7.at (i := 11) rfl
                    have d12 : W7.cell? ⟨d, 12, none⟩ = some (.int .i64 (R.e : Int)) := hB7.at (i := 12) rfl
                    have d7 : W7.cell? ⟨d, 7, none⟩ = some (.int .i64 (R.st : Int)) := hB7.at (i := 7) rfl
                    have f11 := hB7.frozen 11
                    have f12 := hB7.frozen 12
                    have f7 := hB7.frozen 7
                    go_wp2_with fail
                    go_ret
                    rw [HN.out.1, HN.out.2]
                    have C8 := ((chg_set W7 d 11 (.slice q7 n7 c7)).trans (chg_set _ d 12 (.int .i64 ((doN R.c (nwV P) : Nat) : Int)))).trans (chg_set _ d 7 (.int .i64 2))
                    subst hP
                    obtain ⟨hR8, F8⟩ := hR7.turn (R' := tellR { R with pr := pmP R (j : Int) a l }) C8 (((hB7.set 11 _).set 12 _).set 7 _) J1 J2 hO7 rfl rfl hokT (by show 1 ≤ 2; omega)
                    exact ⟨rfl, hR8, hF7.trans F8⟩
                  · have hjn2 : jj < R.n := by omega
                    have hji2 : (jj : Int) < (R.n : Int) := by omega
                    have hH5w := hH5.keep hbr
                    cases hx5 : P[jj]? with
                    | none => rw [List.getElem?_eq_none_iff] at hx5; omega
                    | some y =>
                      have z1 : wr.cell? ⟨g1, jj, none⟩ = some (.bool y.isSome) := hH5w.at (bls_at (has_at hx5))
                      cases y with
                      | none =>
                        have z1 : wr.cell? ⟨g1, jj, none⟩ = some (.bool false) := z1
                        have HK2 : Hid (os'.map keyR = (P.take (jj + 1)).filterMap id) := by show _ = _; rw [pr_take_no hx5, hKy]
                        clear hx5 hKy hH5w
                        go_wp2_with fail
                        exact ⟨⟨jj + 1, os', by omega, rfl, hO, hI, HK2.out, by omega, hbr⟩, by simp only [intOf]; omega⟩
                      | some y =>
                        obtain ⟨a5, l5⟩ := y
                        have z1 : wr.cell? ⟨g1, jj, none⟩ = some (.bool true) := z1
                        obtain ⟨⟨rp, ra, rv, rl⟩, hr5, hk5, hi5⟩ := hrg5.at' jj a5 l5 hx5
                        have hk5' : ra = a5 ∧ rl = l5 := by unfold keyR at hk5; injection hk5 with e1 e2; exact ⟨e1, e2⟩
                        obtain ⟨rfl, rfl⟩ := hk5'
                        dsimp only at hi5
                        obtain ⟨qr, cr, er⟩ := hi5.form
                        subst er
                        have HK2 : Hid ((os' ++ [(⟨rp, ra, .slice qr rl.length cr, rl⟩ : RrD)]).map keyR = (P.take (jj + 1)).filterMap id) := by show _ = _; rw [pr_take_yes hx5, ← hKy, List.map_append]; rfl
                        obtain ⟨nr, hnr⟩ : ∃ n, rl.length = n := ⟨_, rfl⟩
                        rw [hnr] at hi5 hr5 HK2
                        have hosw := hos5.keep hbr
                        have u0 : wr.cell? ⟨g2, jj * 7, none⟩ = some (.int .i64 rp.n) := hosw.at (by rw [List.getElem?_toArray]; exact flR_at (i := 0) hr5 (by omega))
                        have u1 : wr.cell? ⟨g2, jj * 7 + 1, none⟩ = some (.int .i64 rp.nd) := hosw.at (by rw [List.getElem?_toArray]; exact flR_at (i := 1) hr5 (by omega))
                        have u2 : wr.cell? ⟨g2, jj * 7 + 2, none⟩ = some (.int .i64 rp.lf) := hosw.at (by rw [List.getElem?_toArray]; exact flR_at (i := 2) hr5 (by omega))
                        have u3 : wr.cell? ⟨g2, jj * 7 + 3, none⟩ = some (.int .i64 ra.n) := hosw.at (by rw [List.getElem?_toArray]; exact flR_at (i := 3) hr5 (by omega))
                        have u4 : wr.cell? ⟨g2, jj * 7 + 4, none⟩ = some (.int .i64 ra.nd) := hosw.at (by rw [List.getElem?_toArray]; exact flR_at (i := 4) hr5 (by omega))
                        have u5 : wr.cell? ⟨g2, jj * 7 + 5, none⟩ = some (.int .i64 ra.lf) := hosw.at (by rw [List.getElem?_toArray]; exact flR_at (i := 5) hr5 (by omega))
                        have u6 : wr.cell? ⟨g2, jj * 7 + 6, none⟩ = some (.slice qr nr cr) := hosw.at (by rw [List.getElem?_toArray]; exact flR_at (i := 6) hr5 (by omega))
                        clear hx5 hKy hH5w hosw hr5
                        go_wp2_with (first
                          | (refine bs_r1 rfl rfl rp ra qr nr cr (by simp only [List.map_toArray, List.map_cons, List.map_nil]; rfl) ?_; intro W6 hB6 b6; go_frame)
                          | (have mk := b6; clear mk; refine app_r W5 rfl rfl rl rfl (hO.keep b6) rfl hB6 (by omega) (ab_trans hbr b6) ?_; intro v7 W7 hO7 b7 g7; go_frame))
                        have hIA : ∀ r ∈ os' ++ [(⟨rp, ra, .slice qr nr cr, rl⟩ : RrD)], Is W0 r.v r.l := by
                          intro r hr
                          rcases List.mem_append.1 hr with hr | hr
                          · exact hI r hr
                          · have : r = ⟨rp, ra, .slice qr nr cr, rl⟩ := by simpa using hr
                            subst this
                            exact hi5
                        exact ⟨⟨jj + 1, _, by omega, rfl, hO7, hIA, HK2.out, by simp; omega, b7⟩, by simp only [intOf]; omega⟩
              · have HN : Hid (pmB R (j : Int) x = false ∧ pmS R (j : Int) x a l = { R with pr := pmP R (j : Int) a l }) := pm_few HK.out (by omega)
                have t1 : 2 * N ≤ R.n := by omega
                have t2 : 2 * (N : Int) ≤ (R.n : Int) := by omega
                go_wp2_with fail
                go_ret
                rw [HN.out.1, HN.out.2]
                exact ⟨rfl, hR5, hF5⟩
        · have j1 : ((R.st : Int) != 1) = true := by simp; omega
          have HN : Hid (pmK R k x = false) := by show _ = _; unfold pmK; rw [decide_eq_false h2]; simp
          repeat (go_big_quiet_step (fail))
          refine wpQuiet_nil ?_
          rintro _ ⟨y, rfl⟩
          obtain ⟨W2, hb⟩ := y
          dsimp only
          clear e0 e1 e2 e3 e7 e8 x0 x1 x2 HZ HE
          go_wp2_with fail
          go_ret
          exact dre_no h (ab_trans hw hb) (pm_no (a := a) (l := l) HN.out).1 (pm_no HN.out).2
    · have i2 : (R.n : Int) ≤ k := by omega
      have HH : Hid (hearB R k x = false) := by show _ = _; unfold hearB; rw [decide_eq_false k2]; simp
      repeat (go_big_quiet_step (fail))
      refine wpQuiet_nil ?_
      rintro _ ⟨y, rfl⟩
      obtain ⟨W2, hb⟩ := y
      dsimp only
      clear e0 e1 e2 e3 e7 e8 x0 x1 x2 HZ HE
      go_wp2_with fail
      go_ret
      exact dre_no h (ab_trans hw hb) (pm_no (a := a) (l := l) (pmK_deaf HH.out)).1 (pm_no (pmK_deaf HH.out)).2
  · have i1 : k < 0 := by omega
    have HH : Hid (hearB R k x = false) := by show _ = _; unfold hearB; rw [decide_eq_false k1]; simp
    repeat (go_big_quiet_step (fail))
    refine wpQuiet_nil ?_
    rintro _ ⟨y, rfl⟩
    obtain ⟨W2, hb⟩ := y
    dsimp only
    clear e0 e1 e2 e3 e7 e8 x0 x1 x2 HZ HE
    go_wp2_with fail
    go_ret
    exact dre_no h (ab_trans hw hb) (pm_no (a := a) (l := l) (pmK_deaf HH.out)).1 (pm_no (pmK_deaf HH.out)).2
end Go.Proofs.Ytodmhohccclhmaa
