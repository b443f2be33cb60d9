/-
  A letter is delivered: answers to rounds.
-/
import Derived.Test.YtodmhohccclhmaaPk24
import Derived.Deep.CutRange
import Derived.Deep.CutBlock
namespace Go.Proofs.Ytodmhohccclhmaa
open Go.RowKit
set_option linter.unusedVariables false
set_option maxRecDepth 100000

/-- Where the net's rounds lie. -/
theorem Nw.round {W0 W : World} {B wb : Nat} {P : NwP} {S : Net} (h : Nw W0 W B wb P S) {i : Nat} {R : Rd} (hi : S.rd[i]? = some R) :
    ∃ gd cd t, P.rv = .slice (some ⟨gd, 0, none⟩) S.rd.length cd ∧ S.rd.length ≤ cd ∧ cd ≤ 9223372036854775807 ∧ P.bs[i]? = some t ∧ (∀ V, Below W.heap.size W V → V.cell? ⟨gd, i, none⟩ = some (rptr t.1)) ∧ Rn (fun _ => False) W B t.1 t.2.1 t.2.2 R := by
  have hil : i < S.rd.length := (List.getElem?_eq_some_iff.1 hi).1
  obtain ⟨t, ht⟩ : ∃ t, P.bs[i]? = some t := ⟨P.bs[i]'(by rw [h.bsl]; exact hil), List.getElem?_eq_getElem _⟩
  have hne : P.rv ≠ .slice none 0 0 := fun e => by
    rcases h.rds.2 with ⟨-, e2⟩ | ⟨g, cap, cur, e2, _⟩
    · omega
    · rw [e] at e2; cases e2
  obtain ⟨gd, cd, e, h1, h2, h3, h4, h5⟩ := own_cells h.rds hne
  refine ⟨gd, cd, t, e, h3, by unfold maxLen at h4; omega, ht, fun V hb => keep_cell hb (h5 i _ (by rw [List.getElem?_map, ht]; rfl)) h2, h.rnd i t R ht hi⟩
/-- The cells of the net's struct. -/
theorem Nw.cells {W0 W : World} {B wb : Nat} {P : NwP} {S : Net} (h : Nw W0 W B wb P S) : (∀ V, Below W.heap.size W V → V.cell? ⟨wb, 0, none⟩ = some (.slice (some ⟨P.gr, 0, none⟩) S.n S.n)) ∧ (∀ V, Below W.heap.size W V → V.cell? ⟨wb, 1, none⟩ = some P.rv) ∧ (∀ V, Below W.heap.size W V → V.cell? ⟨wb, 2, none⟩ = some P.cv) ∧ (∀ V, Below W.heap.size W V → V.cell? ⟨wb, 12, none⟩ = some P.lv) ∧ (∀ i, W.frozen? ⟨wb, i, none⟩ = false) ∧ wb < W.heap.size := by
  obtain ⟨x, y, z, e, hB⟩ := h.blk
  exact ⟨hB.cellV (i := 0) rfl, hB.cellV (i := 1) rfl, hB.cellV (i := 2) rfl, hB.cellV (i := 12) rfl, fun i => hB.frozen i, hB.lt⟩
theorem set_c {S : Net} {i : Nat} {R R' : Rd} (h : S.rd[i]? = some R) (hc : R'.c = R.c) : (S.rd.set i R').map (fun R => R.c) = S.rd.map (fun R => R.c) := map_set_same _ _ i R R' h hc
theorem Rn.lo {G : Nat → Prop} {W : World} {B b mp ma : Nat} {R : Rd} (h : Rn G W B b mp ma R) : ∀ k, bks b mp ma k → B ≤ k := by
  rintro k (e | e | e) <;> subst e
  · exact h.geb
  · exact h.gep
  · exact h.gea
theorem ac_c (R : Rd) (k : Int) (b : Bt) : (acS R k b).c = R.c := by
  unfold acS
  split
  · split <;> rfl
  · rfl
theorem rf_c (R : Rd) (k : Int) (b g : Bt) : (rfS R k b g).c = R.c := by
  unfold rfS
  split <;> rfl
/-- So many letters that tell. -/
def tls (r : Nat) (b : Bt) (v : List Int) (j : Nat) : List Lt := (List.range j).map (fun i => (⟨1, r, i, b, zB, zB, zB, [], v⟩ : Lt))
theorem tls_succ (r : Nat) (b : Bt) (v : List Int) (j : Nat) : tls r b v (j + 1) = tls r b v j ++ [⟨1, r, j, b, zB, zB, zB, [], v⟩] := by unfold tls; rw [List.range_succ, List.map_append]; rfl
theorem tls_len (r : Nat) (b : Bt) (v : List Int) (j : Nat) : (tls r b v j).length = j := by unfold tls; simp
/-- A box beside a net. -/
theorem box_frm {W0 W W' : World} {B wb : Nat} {P : NwP} {S : Net} {X : Nat → Prop} {g : Nat} {cs : Array Value} {t : TypeId} (hB : Blk W g cs t) (hf : Frm X W W') (hX : ∀ k, X k → k < g) : Blk W' g cs t := hB.frm hf (fun e => by have := hX g e; omega)
set_option maxHeartbeats 4000000 in
theorem deliver_back (W0 : World) (wb : Nat) (P : NwP) (S : Net) (acc : Nat → Nat → Prop) (l : LD) (w : World) (h : Nw W0 w W0.heap.size wb P S) (hI : Inv acc S) (R : Rd) (hr : S.rd[l.r]? = some R) (hl : LtOK acc S (ltOf l) R) (hm : Im W0 w W0.heap.size l.rv l.l ∧ Im W0 w W0.heap.size l.vv l.m) (hsz : S.lt.length ≤ 3000) (hkd : l.kd = 2 ∨ l.kd = 3 ∨ l.kd = 4) :
    Calls Try.prog 31 #[nptr wb, .agg (lC l)] w fun e w' => e = .returned (.tuple #[]) ∧ Dlv W0 w w' W0.heap.size wb S 5 := by
  obtain ⟨kd, lr, lk, lb, lg, lp, la, rv, ll, vv, lm⟩ := l
  dsimp only at hr hm hkd
  obtain ⟨q1, c1, e⟩ := hm.1.form
  obtain ⟨q2, c2, e'⟩ := hm.2.form
  subst e
  subst e'
  obtain ⟨n1, hn1⟩ : ∃ n, ll.length = n := ⟨_, rfl⟩
  obtain ⟨n2, hn2⟩ : ∃ n, lm.length = n := ⟨_, rfl⟩
  rw [hn1, hn2] at hm ⊢
  go_enter Try.func31, Try.ntmps31
  go_upto_region 1 with fail
  obtain ⟨A, hAe, hX, hw⟩ := blk1 w (lV (kd : Int) (lr : Int) (lk : Int) lb lg lp la (.slice q1 n1 c1) (.slice q2 n2 c2)) 76
  rw [show w.alloc (.cells _ 76) = A from hAe]
  clear hAe
  have hA := h.keep hw
  obtain ⟨gd, cd, t, erv, hcd, hcm, ht, hcell, hRn⟩ := hA.round hr
  obtain ⟨c0, c1', c2', c12, hfz, hwl⟩ := hA.cells
  have hlr : lr < S.rd.length := (List.getElem?_eq_some_iff.1 hr).1
  have hlri : (lr : Int) < (S.rd.length : Int) := by omega
  have k1 : ∀ y : Cls A, y.val.cell? ⟨wb, 1, none⟩ = some (.slice (some ⟨gd, 0, none⟩) S.rd.length cd) := fun y => by rw [c1' _ y.prop, erv]
  have k2 : ∀ y : Cls A, y.val.cell? ⟨w.heap.size, 1, none⟩ = some (.int .i64 (lr : Int)) := cls_cell (hX.at (i := 1) rfl) hX.lt
  have k3 : ∀ y : Cls A, y.val.cell? ⟨gd, lr, none⟩ = some (rptr t.1) := fun y => hcell _ y.prop
  have HZ := cls_some A
  refine wp_region_below (by kernel_rfl) (by kernel_rfl) ?_
  repeat (go_big_quiet_step (fail))
  refine wpQuiet_nil ?_
  rintro _ ⟨y, rfl⟩
  obtain ⟨V, hbV⟩ := y
  dsimp only
  clear k1 k2 k3 HZ c0 c1' c2' c12 hfz hcell
  have hV := hA.keep hbV
  have hRV := hRn.keep hbV
  have hXV := hX.keep hbV
  have hwV := ab_trans hw hbV
  have hmV1 := hm.1.frm (X := fun _ => False) (frm_below hwV) (noI_false w)
  have zV := hwV.size
  have zX := hX.lt
  have hkn := hl.kn
  have u0 : ∀ U, Below V.heap.size V U → U.cell? ⟨w.heap.size, 0, none⟩ = some (.int .i64 (kd : Int)) := hXV.cellV (i := 0) rfl
  have u2 : ∀ U, Below V.heap.size V U → U.cell? ⟨w.heap.size, 2, none⟩ = some (.int .i64 (lk : Int)) := hXV.cellV (i := 2) rfl
  have u3 : ∀ U, Below V.heap.size V U → U.cell? ⟨w.heap.size, 3, none⟩ = some (.int .i64 lb.n) := hXV.cellV (i := 3) rfl
  have u4 : ∀ U, Below V.heap.size V U → U.cell? ⟨w.heap.size, 4, none⟩ = some (.int .i64 lb.nd) := hXV.cellV (i := 4) rfl
  have u5 : ∀ U, Below V.heap.size V U → U.cell? ⟨w.heap.size, 5, none⟩ = some (.int .i64 lb.lf) := hXV.cellV (i := 5) rfl
  have u6 : ∀ U, Below V.heap.size V U → U.cell? ⟨w.heap.size, 6, none⟩ = some (.int .i64 lg.n) := hXV.cellV (i := 6) rfl
  have u7 : ∀ U, Below V.heap.size V U → U.cell? ⟨w.heap.size, 7, none⟩ = some (.int .i64 lg.nd) := hXV.cellV (i := 7) rfl
  have u8 : ∀ U, Below V.heap.size V U → U.cell? ⟨w.heap.size, 8, none⟩ = some (.int .i64 lg.lf) := hXV.cellV (i := 8) rfl
  have u9 : ∀ U, Below V.heap.size V U → U.cell? ⟨w.heap.size, 9, none⟩ = some (.int .i64 lp.n) := hXV.cellV (i := 9) rfl
  have u10 : ∀ U, Below V.heap.size V U → U.cell? ⟨w.heap.size, 10, none⟩ = some (.int .i64 lp.nd) := hXV.cellV (i := 10) rfl
  have u11 : ∀ U, Below V.heap.size V U → U.cell? ⟨w.heap.size, 11, none⟩ = some (.int .i64 lp.lf) := hXV.cellV (i := 11) rfl
  have u12 : ∀ U, Below V.heap.size V U → U.cell? ⟨w.heap.size, 12, none⟩ = some (.int .i64 la.n) := hXV.cellV (i := 12) rfl
  have u13 : ∀ U, Below V.heap.size V U → U.cell? ⟨w.heap.size, 13, none⟩ = some (.int .i64 la.nd) := hXV.cellV (i := 13) rfl
  have u14 : ∀ U, Below V.heap.size V U → U.cell? ⟨w.heap.size, 14, none⟩ = some (.int .i64 la.lf) := hXV.cellV (i := 14) rfl
  have u15 : ∀ U, Below V.heap.size V U → U.cell? ⟨w.heap.size, 15, none⟩ = some (.slice q1 n1 c1) := hXV.cellV (i := 15) rfl
  have hbv := Below.refl V.heap.size V
  rcases hkd with e | e | e
  · have z0 : ((kd : Int) == 0) = false := by simp; omega
    have z1 : ((kd : Int) == 1) = false := by simp; omega
    have z2 : ((kd : Int) == 2) = true := by rw [e]; rfl
    have hsz1 : ll.length ≤ 1000 := by have h9 : ll.length ≤ 32 := (hl.pm e).sz; omega
    have hI1 : Inv acc { S with rd := S.rd.set lr (pmS R (lk : Int) lb la ll) } := inv_pm hI hr hl e
    have e9 : Hid (kd = 2) := e
    clear e
    go_wp2_with fail
    refine (promise_any W0.heap.size t.1 t.2.1 t.2.2 R (lk : Int) lb lp la (.slice q1 n1 c1) ll V hRV hV.lB (fun k hk => hk.elim) (hmV1.is hV.old) hsz1).mono ?_
    rintro e' W1 ⟨rfl, hR1, F1⟩
    have hN1 := hV.turnR ht hr F1 hR1 (pm_b R (lk : Int) lb la ll).2.1
    have hb1 : Below W0.heap.size w W1 := (hwV.mono (by have := h.lB; exact this)).trans (F1.below hV.lB hRV.lo)
    cases hB : pmB R (lk : Int) lb
    · go_wp2_with fail
      go_end0
      exact ⟨rfl, P, _, acc, hN1, hI1, rfl, set_c hr (pm_b R (lk : Int) lb la ll).2.1, Nat.le_add_right _ _, hb1⟩
    · obtain ⟨R1, hR1e⟩ : ∃ R1, R1 = pmS R (lk : Int) lb la ll := ⟨_, rfl⟩
      have hT : Hid (told R1) := by
        have := (rnd_pm (hI.rok _ R hr) hkn lb la ll (by have := (hl.pm e9.out).sz; exact this) (fun a' l' hm' => by obtain ⟨c, hc, hc2⟩ := List.mem_iff_getElem.1 hm'; exact (hI.prs _ R c a' l' hr (by rw [List.getElem?_eq_getElem hc, hc2])).sz)).2.2.1 hB
        show told R1
        rw [hR1e]
        exact this
      have hb1b : Hid (lb = R1.b) := by
        show lb = R1.b
        have e1 : lb = R.b := hl.eb
        rw [hR1e, (pm_b R (lk : Int) lb la ll).1]
        exact e1
      have hRc : Hid (R1.c = R.c) := by
        show R1.c = R.c
        rw [hR1e]
        exact (pm_b R (lk : Int) lb la ll).2.1
      rw [← hR1e] at hN1 hI1 hR1
      have hR1at : (S.rd.set lr R1)[lr]? = some R1 := List.getElem?_set_self hlr
      have hle : R1.v.length ≤ 32 := (hI1.rok lr R1 hR1at).le
      clear hB hR1e
      obtain ⟨S1, hS1⟩ : ∃ S1 : Net, S1 = { S with rd := S.rd.set lr R1 } := ⟨_, rfl⟩
      rw [← hS1] at hN1 hI1
      have hS1n : S1.n = S.n := by rw [hS1]
      have hS1l : S1.lt = S.lt := by rw [hS1]
      have hS1at : S1.rd[lr]? = some R1 := by rw [hS1]; exact hR1at
      have hS1c : Hid (S1.rd.map (fun R => R.c) = S.rd.map (fun R => R.c)) := by show _ = _; rw [hS1]; exact set_c hr hRc.out
      have hn5 : S.n ≤ 5 := hI.n5
      have hX1 : Blk W1 w.heap.size (lV (kd : Int) (lr : Int) (lk : Int) lb lg lp la (.slice q1 n1 c1) (.slice q2 n2 c2)) 76 := hXV.frm F1 (fun e => by have := hRV.kinds e hXV.kindR; cases this)
      obtain ⟨d0, -, -, -, -, -⟩ := hN1.cells
      rw [hS1n] at d0
      have hbv := Below.refl W1.heap.size W1
      clear u0 u2 u3 u4 u5 u6 u7 u8 u9 u10 u11 u12 u13 u14 u15 hS1 hR1at
      go_wp2_with fail
      clear d0 hbv
      go_loopw [127] (fun iv wr => ∃ (j : Nat) (P' : NwP), j ≤ S.n ∧ iv = .int .i64 (j : Int) ∧ Nw W0 wr W0.heap.size wb P' { S1 with lt := S1.lt ++ tls lr lb R1.v j } ∧ P'.bs = P.bs ∧ (∀ k, P'.lv.ownBlock = some k → k ≠ w.heap.size) ∧ Blk wr w.heap.size (lV (kd : Int) (lr : Int) (lk : Int) lb lg lp la (.slice q1 n1 c1) (.slice q2 n2 c2)) 76 ∧ Below W0.heap.size w wr) (fun iv _ => S.n - (intOf iv).toNat)
      case atStart => exact ⟨0, P, by omega, rfl, by show Nw W0 W1 _ _ _ { S1 with lt := S1.lt ++ [] }; rw [List.append_nil]; exact hN1, rfl, fun k hk => by have := (h.lts.lt k hk).2; omega, hX1, hb1⟩
      case round =>
        obtain ⟨j, P', hj, rfl, hN, hbs, hlv, hXr, hbr⟩ := hrel
        clear hN1 hX1
        by_cases cj : j = S.n
        · have HI : Hid (Inv acc { S1 with lt := S1.lt ++ tls lr lb R1.v j }) := by
            show Inv acc _
            have := inv_tells hI1 hS1at hT.out
            have e : tls lr lb R1.v j = (List.range S1.n).map (fun i => (⟨1, lr, i, R1.b, zB, zB, zB, [], R1.v⟩ : Lt)) := by unfold tls; rw [hS1n, ← cj, ← hb1b.out]
            rw [e]
            exact this
          have hlen : ({ S1 with lt := S1.lt ++ tls lr lb R1.v j } : Net).lt.length ≤ S.lt.length + 5 := by
            show (S1.lt ++ tls lr lb R1.v j).length ≤ _
            rw [List.length_append, tls_len, hS1l]
            omega
          have i9 : ¬ (j : Int) < (S.n : Int) := by omega
          have i10 : ¬ j < S.n := by omega
          clear cj
          go_wp2_with fail
          go_end0
          exact ⟨rfl, P', _, acc, hN, HI.out, hS1n, hS1c.out, hlen, hbr⟩
        · have hjn : j < S.n := by omega
          have hji : (j : Int) < (S.n : Int) := by omega
          have hRr := hN.rnd lr t R1 (by rw [hbs]; exact ht) hS1at
          obtain ⟨vv1, r10, -, iv1⟩ := rn_val hRr
          have hNL : ({ S1 with lt := S1.lt ++ tls lr lb R1.v j } : Net).lt.length = S.lt.length + j := by show (S1.lt ++ tls lr lb R1.v j).length = _; rw [List.length_append, tls_len, hS1l]
          obtain ⟨ql, cl, el⟩ := hN.letters
          rw [hNL] at el
          obtain ⟨-, -, -, e12, hfz, hwl⟩ := hN.cells
          have hrl := hRr.lt
          have D : ∀ U, Below wr.heap.size wr U → Blk U w.heap.size (lV (kd : Int) (lr : Int) (lk : Int) lb lg lp la (.slice q1 n1 c1) (.slice q2 n2 c2)) 76 ∧ U.cell? ⟨wb, 12, none⟩ = some (.slice ql (S.lt.length + j) cl) := fun U hb => ⟨hXr.keep hb, by rw [e12 U hb, el]⟩
          go_upto_region 21 with fail
          refine region_L 14 (S := fun w' => Below wr.heap.size wr w') (by kernel_rfl) ((Below.refl _ _).drew) (fun hHeld => ?_)
          have hdr : Below wr.heap.size wr wr.drew := hHeld
          generalize wr.drew = V0 at *
          refine takeP (i := 0) (some 130) (by rfl) rfl rfl (by kernel_rfl) (by kernel_rfl) (by kernel_rfl) (fun _ _ _ h => h) (by rfl) (fun w => by go_simp; try rfl) hHeld ?_
          go_frame
          refine takeP (i := 1) (some 131) (by rfl) rfl rfl (by kernel_rfl) (by kernel_rfl) (by kernel_rfl) (fun _ _ _ h => h) (by rfl) (fun w => by go_simp; try rfl) hHeld ?_
          go_frame
          refine takeP (i := 2) (some 132) (by rfl) rfl rfl (by kernel_rfl) (by kernel_rfl) (by kernel_rfl) (fun _ _ _ h => h) (by rfl) (fun w => by go_simp; try rfl) hHeld ?_
          go_frame
          refine takeP (i := 3) (some 133) (by rfl) rfl rfl (by kernel_rfl) (by kernel_rfl) (by kernel_rfl) (fun _ _ _ h => h) (by rfl) (fun w => by go_simp; try rfl) hHeld ?_
          go_frame
          refine takeP (i := 5) (some 135) (by rfl) rfl rfl (by kernel_rfl) (by kernel_rfl) (by kernel_rfl) (fun _ _ _ h => h) (by rfl) (fun w => by go_simp; try rfl) hHeld ?_
          go_frame
          refine takeP (i := 7) (some 137) (by rfl) rfl rfl (by kernel_rfl) (by kernel_rfl) (by kernel_rfl) (fun _ _ _ h => h) (by rfl) (fun w => by go_simp; try rfl) hHeld ?_
          go_frame
          refine takeP (i := 8) (some 138) (by rfl) rfl rfl (by kernel_rfl) (by kernel_rfl) (by kernel_rfl) (fun _ _ _ h => h) (by rfl) (fun w => by go_simp; try rfl) hHeld ?_
          go_frame
          refine takeP (i := 10) (some 140) (by rfl) rfl rfl (by kernel_rfl) (by kernel_rfl) (by kernel_rfl) (fun _ _ _ h => h) (by rfl) (fun w => by go_simp; try rfl) hHeld ?_
          go_frame
          refine takeL (i := 4) [14] (some 134) (by rfl) rfl rfl (by kernel_rfl) (by kernel_rfl) (by kernel_rfl) (by kernel_rfl) (fun _ _ _ h => h) (by rfl) (fun w hSw => by (try dsimp only at hSw); (have hcc := (D _ hSw).2; go_simp; try rfl)) hHeld ?_
          go_frame
          refine takeL (i := 6) [12, 13, 14] (some 136) (by rfl) rfl rfl (by kernel_rfl) (by kernel_rfl) (by kernel_rfl) (by kernel_rfl) (fun _ _ _ h => h) (by rfl) (fun w hSw => by (try dsimp only at hSw); (have hh := (D _ hSw).1; have y1 := hh.at (i := 1) rfl; go_simp; try rfl)) hHeld ?_
          go_frame
          refine takeL (i := 9) [12, 13, 14] (some 139) (by rfl) rfl rfl (by kernel_rfl) (by kernel_rfl) (by kernel_rfl) (by kernel_rfl) (fun _ _ _ h => h) (by rfl) (fun w hSw => by (try dsimp only at hSw); (have hh := (D _ hSw).1; have y3 := hh.at (i := 3) rfl; have y4 := hh.at (i := 4) rfl; have y5 := hh.at (i := 5) rfl; go_simp; try rfl)) hHeld ?_
          go_frame
          refine anyL_ready (rs := [11]) (by kernel_rfl) (by simp) (AllL.cons rfl (fun K hK => ?_) AllL.nil)
          go_simp
          refine (rvalue_any t.1 vv1 R1.v V0 (keep_cell hdr r10 hrl) (iv1.is.keep hdr) (by omega)).mono ?_
          rintro e W3 ⟨v3, rfl, hO3, b3'⟩
          show K _ _
          obtain ⟨q3, c3, e3⟩ := hO3.is.form
          obtain ⟨n3, hn3⟩ : ∃ n, R1.v.length = n := ⟨_, rfl⟩
          rw [hn3] at e3
          subst e3
          have hb3 := ab_trans hdr b3'
          refine hK.out _ _ hb3 (fun hHeld => ?_)
          clear hK K
          try go_frame
          refine takeP (i := 12) (some 142) (by rfl) rfl rfl (by kernel_rfl) (by kernel_rfl) (by kernel_rfl) (fun _ _ _ h => h) (by rfl) (fun w => by go_simp; try rfl) hHeld ?_
          go_frame
          refine anyL_ready (rs := [13]) (by kernel_rfl) (by simp) (AllL.cons rfl (fun K hK => ?_) AllL.nil)
          rw [if_pos (by rfl)]
          refine bsLtW (some 143) rfl rfl 1 (lr : Int) (j : Int) lb zB zB zB none q3 0 n3 0 c3 (by simp only [List.map_toArray, List.map_cons, List.map_nil]; rfl) ?_
          intro W4 hB4 b4
          have hb4 := ab_trans hb3 b4
          refine hK.out _ _ hb4 (fun hHeld => ?_)
          clear hK K
          try go_frame
          have hN4 := hN.keep hb4
          have hO4 : Im W0 W4 W0.heap.size (.slice q3 n3 c3) R1.v := .inl ((hO3.keep b4).less (by have := hN.lB; have := hdr.size; omega))
          have hown4 := hN4.lts
          rw [hNL, el] at hown4
          refine anyL_ready (rs := [14]) (by kernel_rfl) (by simp) (AllL.last rfl (by kernel_rfl) (fun K hK => ?_))
          rw [if_pos (by rfl)]
          refine appLt1 (some 144) rfl rfl ⟨1, lr, j, lb, zB, zB, zB, .slice none 0 0, [], .slice q3 n3 c3, R1.v⟩ rfl hown4 rfl hB4 ⟨_, _, _, rfl⟩ ⟨_, _, _, rfl⟩ (by omega) hN4.lB ?_
          intro v5 W5 own5 gr5 at5
          rw [← el] at gr5
          have zX4 : w.heap.size < W4.heap.size := Nat.lt_of_lt_of_le hXr.lt hb4.size
          have hm5 := hN4.more (v := v5) (l := ⟨1, lr, j, lb, zB, zB, zB, .slice none 0 0, [], .slice q3 n3 c3, R1.v⟩) gr5 (by rw [hNL]; exact own5) ⟨Im.nil _ _ _, hO4⟩
          obtain ⟨hN5, F5⟩ := hm5
          have hc5 : ∃ q c, v5 = .slice q (S.lt.length + j + 1) c := by
            rcases own5.2 with ⟨h1, h2⟩ | ⟨g, cap, cur, h1, _⟩
            · omega
            · exact ⟨_, _, h1⟩
          obtain ⟨q5, c5, e5⟩ := hc5
          subst e5
          have hB5w : W5.cell? ⟨wb, 12, none⟩ = some (.slice ql (S.lt.length + j) cl) := by
            obtain ⟨x, y, z, e, hBw⟩ := hN4.blk
            have hF : Frm (fun k => P'.lv.ownBlock = some k) W4 W5 := ⟨gr5.os, gr5.tape, gr5.output, gr5.size, fun i hi hx => gr5.block i hi (fun e => hx e.symm)⟩
            have := (hBw.frm hF (fun e => by have := (hN4.kinds.2.2.2.2 _ e).uniq hBw.kindR; cases this)).at (i := 12) rfl
            rw [← el]
            exact this
          have hfz5 : W5.frozen? ⟨wb, 12, none⟩ = false := by
            obtain ⟨x, y, z, e, hBw⟩ := hN4.blk
            have hF : Frm (fun k => P'.lv.ownBlock = some k) W4 W5 := ⟨gr5.os, gr5.tape, gr5.output, gr5.size, fun i hi hx => gr5.block i hi (fun e => hx e.symm)⟩
            exact (hBw.frm hF (fun e => by have := (hN4.kinds.2.2.2.2 _ e).uniq hBw.kindR; cases this)).frozen 12
          have hX4 := (D _ hb4).1
          have hX5 := hX4.frm F5 (fun e => by
            rcases e with e | e
            · exact hlv _ e rfl
            · have := hX4.kindR.uniq (e ▸ hN4.kinds.1); cases this)
          refine hK.out _ _ ?_
          clear hK K
          try go_frame
          refine anyL_ready (rs := [15]) (by kernel_rfl) (by simp) (AllL.free rfl (by kernel_rfl) (fun K hK => ?_))
          go_simp
          refine hK.out _ _ ?_
          clear hK K
          try go_frame
          refine anyL_ready (rs := [16]) (by kernel_rfl) (by simp) (AllL.free rfl (by kernel_rfl) (fun K hK => ?_))
          go_simp
          refine hK.out _ _ ?_
          clear hK K
          try go_frame
          refine anyL_ready (rs := [17]) (by kernel_rfl) (by simp) (AllL.free rfl (by kernel_rfl) (fun K hK => ?_))
          go_simp
          refine hK.out _ _ ?_
          clear hK K
          refine anyL_done (by kernel_rfl) ?_
          go_wp2_with fail
          have hb5 : Below W0.heap.size w (W5.setCell ⟨wb, 12, none⟩ (.slice q5 (S.lt.length + j + 1) c5)) := (hbr.trans (hb4.mono hN.lB)).trans (F5.below hN4.lB (fun k hk => by rcases hk with e | e; exact (hN4.lts.lt k e).1; subst e; exact hN4.gew))
          refine ⟨⟨j + 1, { P' with lv := .slice q5 (S.lt.length + j + 1) c5, lds := P'.lds ++ [⟨1, lr, j, lb, zB, zB, zB, .slice none 0 0, [], .slice q3 n3 c3, R1.v⟩] }, by omega, rfl, ?_, hbs, fun k hk => ?_, hX5, hb5⟩, by simp only [intOf]; omega⟩
          · rw [tls_succ, ← List.append_assoc]
            exact hN5
          · rcases at5 with e | e
            · have e' : P'.lv.ownBlock = (Value.slice q5 (S.lt.length + j + 1) c5).ownBlock := by rw [el]; exact e.symm
              exact hlv k (e'.trans hk)
            · have : some k = some W4.heap.size := by rw [← hk]; exact e
              cases this
              omega
  · have z0 : ((kd : Int) == 0) = false := by simp; omega
    have z1 : ((kd : Int) == 1) = false := by simp; omega
    have z2 : ((kd : Int) == 2) = false := by simp; omega
    have z3 : ((kd : Int) == 3) = true := by rw [e]; rfl
    have hI1 : Inv acc { S with rd := S.rd.set lr (acS R (lk : Int) lb) } := inv_ac hI hr hl e
    clear e
    go_wp2_with fail
    refine (accepted_any W0.heap.size t.1 t.2.1 t.2.2 R (lk : Int) lb V hRV).mono ?_
    rintro e' W1 ⟨rfl, hR1, F1⟩
    have hN1 := hV.turnR ht hr F1 hR1 (ac_c R (lk : Int) lb)
    have hb1 : Below W0.heap.size w W1 := (hwV.mono (by have := h.lB; exact this)).trans (F1.below hV.lB hRV.lo)
    go_wp2_with fail
    go_end0
    exact ⟨rfl, P, _, acc, hN1, hI1, rfl, set_c hr (ac_c R (lk : Int) lb), Nat.le_add_right _ _, hb1⟩
  · have z0 : ((kd : Int) == 0) = false := by simp; omega
    have z1 : ((kd : Int) == 1) = false := by simp; omega
    have z2 : ((kd : Int) == 2) = false := by simp; omega
    have z3 : ((kd : Int) == 3) = false := by simp; omega
    have hI1 : Inv acc { S with rd := S.rd.set lr (rfS R (lk : Int) lb lg) } := inv_rf hI hr hl e
    clear e
    go_wp2_with fail
    refine (refused_any W0.heap.size t.1 t.2.1 t.2.2 R (lk : Int) lb lg V hRV).mono ?_
    rintro e' W1 ⟨rfl, hR1, F1⟩
    have hN1 := hV.turnR ht hr F1 hR1 (rf_c R (lk : Int) lb lg)
    have hb1 : Below W0.heap.size w W1 := (hwV.mono (by have := h.lB; exact this)).trans (F1.below hV.lB hRV.lo)
    go_wp2_with fail
    go_end0
    exact ⟨rfl, P, _, acc, hN1, hI1, rfl, set_c hr (rf_c R (lk : Int) lb lg), Nat.le_add_right _ _, hb1⟩
end Go.Proofs.Ytodmhohccclhmaa
