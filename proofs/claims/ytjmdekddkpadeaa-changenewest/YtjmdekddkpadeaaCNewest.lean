/-
  Which value was accepted last, as the document says; no register that was handed in is changed or shared: estuarylaw10.ChangeNewest returns true for every input; no condition.
-/
import Derived.Test.YtjmdekddkpadeaaChO
import Derived.ProofKit
import Derived.OpenShut
import Derived.ChangeOld
import Derived.Below
namespace Go.Proofs.Ytjmdekddkpadeaa.changeNewest
open Go.ChangeShapes Go.WideShapes Go.ChangeAt Go.RowKit Go.Joins
set_option linter.unusedVariables false

theorem more_n {N k j : Nat} (h : N ≤ j * 17592186043904) (hn : k ≤ 17592186043904) : N + k ≤ (j + 1) * 17592186043904 := by
  rw [Nat.add_mul, Nat.one_mul]
  exact Nat.add_le_add h hn
theorem few_n {N k j : Nat} (h : N ≤ j * 17592186043904) (hn : k ≤ 17592186043904) (hj : j ≤ 50) : N + k ≤ 1000000000000000 := by
  have h1 : j * 17592186043904 ≤ 50 * 17592186043904 := Nat.mul_le_mul_right _ hj
  omega
theorem key_snoc {rs os : List RrD} {j : Nat} {x y : RrD} (h : rs.map keyR = (os.take j).map keyR) (hy : os[j]? = some y) (hk : keyR x = keyR y) : (rs ++ [x]).map keyR = (os.take (j + 1)).map keyR := by
  rw [List.take_add_one, hy, List.map_append, List.map_append, h]
  simp [hk]
theorem le_snoc {rs : List RrD} {N k : Nat} {x : RrD} (h : ∀ r ∈ rs, r.l.length ≤ N) (hx : x.l.length = k) : ∀ r ∈ rs ++ [x], r.l.length ≤ N + k := by
  intro r hr
  rcases List.mem_append.1 hr with h1 | h1
  · exact Nat.le_trans (h r h1) (Nat.le_add_right _ _)
  · simp at h1
    subst h1
    omega
theorem key_at {rs os : List RrD} {j : Nat} {y : RrD} (h : rs.map keyR = os.map keyR) (hy : os[j]? = some y) : ∃ x, rs[j]? = some x ∧ x.l = y.l := by
  have h1 : (rs.map keyR)[j]? = some (keyR y) := by rw [h, List.getElem?_map, hy]; rfl
  rw [List.getElem?_map] at h1
  cases hx : rs[j]? with
  | none => rw [hx] at h1; simp at h1
  | some x =>
    rw [hx] at h1
    simp [keyR] at h1
    exact ⟨x, rfl, h1.2⟩
theorem cna_snoc {W : World} {base : Nat} {rs : List RrD} {x : RrD} (h : CnA W base rs) (hx : Cn W base x.v x.l) : CnA W base (rs ++ [x]) := by
  intro r hr
  rcases List.mem_append.1 hr with h1 | h1
  · exact h r h1
  · simp at h1
    subst h1
    exact hx
set_option maxHeartbeats 4000000 in
set_option maxRecDepth 100000 in
theorem newest_walk (q : Option Addr) (m cap g off : Nat) (os : List RrD) (w : World) (hs : RrRow w q m cap g off os) :
    Calls Try.prog 5 #[.slice q m cap] w fun e w' => e = .returned (.bool true) ∧ Below w.heap.size w w' := by
  go_enter Try.func5, Try.ntmps5
  go_upto_region 3 with (go_at_call 8; refine (alive10_any _).mono ?_; rintro e W1 ⟨rfl, b1⟩)
  by_cases c1 : m ≤ 50
  rotate_left
  · have c2 : ¬ (m : Int) ≤ 50 := by omega
    go_wp2_with fail
    go_ret
    exact ⟨rfl, b1⟩
  have c2 : (m : Int) ≤ 50 := by omega
  go_upto_region 6 with fail
  clear c2
  go_upto_region 7 with (refine bs_r0 W1 rfl rfl (by simp) (Nat.le_refl _) ?_; intro W2 hR2 b2; go_frame)
  have hw2 := ab_trans b1 b2
  have hz1 := b1.size
  have hlen := hs.len
  have hmx := hs.max
  have hfit := hs.fits
  clear b1
  go_wp2_with fail
  go_loopw [3, 4, 18] (fun nn x i wr => ∃ (j N : Nat) (q4 : Option Addr) (c4 : Nat) (rs : List RrD), j ≤ m ∧ i = .int .i64 (j : Int) ∧ nn = .int .i64 (N : Int) ∧ x = .slice q4 j c4 ∧ rs.length = j ∧ Ro wr W1.heap.size (.slice q4 j c4) rs ∧ CnA wr W1.heap.size rs ∧ rs.map keyR = (os.take j).map keyR ∧ N ≤ j * 17592186043904 ∧ (∀ r ∈ rs, r.l.length ≤ N) ∧ Below W1.heap.size W1 wr ∧ Below w.heap.size w wr) (fun nn x i _ => m - (intOf i).toNat)
  case atStart => exact ⟨0, 0, some ⟨W1.heap.size, 0, none⟩, 0, [], by omega, rfl, rfl, rfl, rfl, hR2, fun r hr => by simp at hr, rfl, Nat.zero_le _, fun r hr => by simp at hr, b2, hw2⟩
  case round =>
    obtain ⟨j, N, q4, c4, rs, hj, rfl, rfl, rfl, hrl, hR, hC, hK, hN1, hN2, hb1, hb⟩ := hrel
    clear hR2 hw2 b2
    by_cases cj : j = m
    · as_aux_lemma =>
        subst cj
        rw [List.take_of_length_le (by omega)] at hK
        clear hN1
        by_cases c2 : N ≤ 2000
        rotate_left
        · have c3 : ¬ (N : Int) ≤ 2000 := by omega
          have c4' : (2000 : Int) < (N : Int) := by omega
          clear hs hR hC hK hN2
          go_wp2_with fail
          go_ret
          exact ⟨rfl, hb⟩
        have c3 : (N : Int) ≤ 2000 := by omega
        have c4' : ¬ (2000 : Int) < (N : Int) := by omega
        have HZ : Hid (∀ r ∈ rs, r.l.length ≤ 17592186043904) := fun r hr => Nat.le_trans (hN2 r hr) (by omega)
        obtain ⟨g4, hRow⟩ := ro_row hR hC HZ.out
        have HL : Hid ((nwL rs).length ≤ 2000) := nwL_le (fun r hr => Nat.le_trans (hN2 r hr) c2)
        have HE : Hid (nwL os = nwL rs) := (nwL_same hK).symm
        have HN2 : Hid (∀ r ∈ rs, r.l.length ≤ 2000) := fun r hr => Nat.le_trans (hN2 r hr) c2
        have HK : Hid (rs.map keyR = os.map keyR) := hK
        clear hK hN2
        go_upto_region 16 with fail
        clear c3 c4'
        go_wp2_with fail
        refine (newest_any q4 j c4 g4 0 rs _ hRow (by have := HL.out; omega)).mono ?_
        rintro e V1 ⟨vv, rfl, hO1, v1⟩
        obtain ⟨R, hRe⟩ : ∃ R, nwL rs = R := ⟨_, rfl⟩
        rw [hRe] at hO1 HL HE
        obtain ⟨qv, cv, ev⟩ := hO1.is.form
        subst ev
        obtain ⟨nv, hnv⟩ : ∃ n, R.length = n := ⟨_, rfl⟩
        rw [hnv] at hO1 HL ⊢
        have hb2 := ab_trans hb v1
        go_upto_region 17 with fail
        go_wp2_with fail
        refine (newestR_any q j cap g off os _ (hs.keep hb2)).mono ?_
        rintro e V2 ⟨vy, rfl, hI2, v2⟩
        rw [HE.out] at hI2
        obtain ⟨qy, cy, ey⟩ := hI2.form
        subst ey
        rw [hnv] at hI2 ⊢
        go_wp2_with fail
        refine (gints_any _ _ R R _ (hO1.is.keep v2) hI2 (by have := HL.out; omega) (by have := HL.out; omega)).mono ?_
        rintro e V3 ⟨rfl, v3⟩
        rw [decide_eq_true (rfl : R = R)]
        have v23 := ab_trans v2 v3
        have v13 := ab_trans v1 v23
        have hb3 := ab_trans hb v13
        have OZ := hO1.keep v23
        unfold Io at OZ
        rw [hnv] at OZ
        have hR3 := hR.keep v13
        have hC3 := hC.keep v13
        have HSc : Hid (∀ r ∈ rs, Sep (.slice qv nv cv) r.v) := fun r hr => (sep_lt (fun k hk => ((hC r hr).lt k hk).2) (fun k hk => (hO1.lt k hk).1)).symm
        have HSr : Hid (Sep (.slice qv nv cv) (.slice q4 j c4)) := sep_ty OZ hR3 (by decide)
        have hwz : w.heap.size ≤ wr.heap.size := hb.size
        have hvz : nv ≤ 2000 := HL.out
        go_upto_region 19 with fail
        clear hR hC hRow hO1 hI2 v1 v2 v3 v23 v13 hb hb2 hb1 hRe HE HL
        generalize wr.heap.size = s4 at *
        go_wp2_with fail
        go_loopw [47] (fun i wr => ∃ (k : Nat) (ys : List Int), k ≤ nv ∧ i = .int .i64 (k : Int) ∧ wr.ownsRow s4 3 1 (.slice qv nv cv) nv (ints ys) ∧ Onl (.slice qv nv cv) V3 wr) (fun i _ => nv - (intOf i).toNat)
        case atStart => exact ⟨0, R, by omega, rfl, OZ, Onl.refl _ _⟩
        case round =>
          obtain ⟨k, ys, hk, rfl, h, hk1⟩ := hrel
          by_cases ck : k = nv
          · as_aux_lemma =>
              subst ck
              have hRY : Ro wr W1.heap.size (.slice q4 j c4) rs := hk1.own hR3 HSr.out
              have hCY : CnA wr W1.heap.size rs := fun r hr => hk1.cn (hC3 r hr) (HSc.out r hr)
              have bY := hk1.below (n := w.heap.size) (fun g hg => by have := (World.ownsRow.lt OZ g hg).1; omega)
              have hwY := hb3.trans bY
              obtain ⟨g5, hRowY⟩ := ro_row hRY hCY HZ.out
              have hsY := hs.keep hwY
              clear h hk1 hR3 hC3 OZ HSc HSr bY hb3 hRY hs
              generalize wr = Y at *
              go_wp2_with fail
              go_loopw [56] (fun i wr => ∃ (k : Nat), k ≤ j ∧ i = .int .i64 (k : Int) ∧ Below Y.heap.size Y wr) (fun i _ => j - (intOf i).toNat)
              case atStart => exact ⟨0, by omega, rfl, Below.refl _ _⟩
              case round =>
                obtain ⟨i', hi, rfl, hbY⟩ := hrel
                by_cases ci : i' = j
                · subst ci
                  clear hRowY hsY hCY
                  go_wp2_with fail
                  go_ret
                  exact ⟨rfl, ab_trans hwY hbY⟩
                · as_aux_lemma =>
                    have hij : i' < j := by omega
                    have hii : (i' : Int) < (j : Int) := by omega
                    obtain ⟨y, hy⟩ : ∃ y, os[i']? = some y := ⟨os[i']'(by omega), List.getElem?_eq_getElem _⟩
                    obtain ⟨x, hx, hxy⟩ := key_at HK.out hy
                    have hxm := List.mem_of_getElem? hx
                    have hCx := (hCY x hxm).keep hbY
                    have hlx := HN2.out x hxm
                    have h1 := (hRowY.keep hbY)
                    have h2 := (hsY.keep hbY)
                    have hf1 := h1.fits
                    have hf2 := h2.fits
                    obtain rfl := h1.ptr (by omega)
                    obtain rfl := h2.ptr (by omega)
                    have a1 := (h1.row i' x hx).c6
                    rw [Nat.zero_add] at a1
                    have a2 := (h2.row i' y hy).c6
                    have hg1 := h1.lt (by omega)
                    have hg2 := h2.lt (by omega)
                    have hIy := (h2.row i' y hy).sl.1
                    rw [← hxy] at hIy
                    obtain ⟨xp, xa, xv, xl⟩ := x
                    obtain ⟨yp, ya, yv, yl⟩ := y
                    dsimp only at hCx hlx a1 a2 hIy hxy
                    obtain ⟨qa, ca, ea⟩ := hCx.is.form
                    subst ea
                    obtain ⟨qb, cb, eb⟩ := hIy.form
                    subst eb
                    obtain ⟨nx, hnx⟩ : ∃ n, xl.length = n := ⟨_, rfl⟩
                    rw [hnx] at hCx hIy a1 a2 hlx
                    have D1 : ∀ W, Below wr.heap.size wr W → W.cell? ⟨g5, i' * 7 + 6, none⟩ = some (.slice qa nx ca) := fun W hb => keep_cell hb a1 hg1
                    have D2 : ∀ W, Below wr.heap.size wr W → W.cell? ⟨g, off + i' * 7 + 6, none⟩ = some (.slice qb nx cb) := fun W hb => keep_cell hb a2 hg2
                    clear h1 h2 hx hy hxm hRowY hsY hCY a1 a2 hxy
                    go_upto_region 27 with fail
                    refine wp_region_held_drew (S := fun w' => Below wr.heap.size wr w') (by kernel_rfl) (ab_drew (Below.refl _ _)) (fun hHeld => ?_)
                    refine takeH (i := 0) (some 59) rfl rfl (by kernel_rfl) (by kernel_rfl) (by kernel_rfl) (fun _ _ _ h => h) (by rfl) (fun w hSw => by (try dsimp only at hSw); go_simp; try rfl) hHeld ?_
                    go_frame
                    refine takeH (i := 1) (some 60) rfl rfl (by kernel_rfl) (by kernel_rfl) (by kernel_rfl) (fun _ _ _ h => h) (by rfl) (fun w hSw => by (try dsimp only at hSw); go_simp; try rfl) hHeld ?_
                    go_frame
                    refine takeH (i := 2) (some 61) rfl rfl (by kernel_rfl) (by kernel_rfl) (by kernel_rfl) (fun _ _ _ h => h) (by rfl) (fun w hSw => by (try dsimp only at hSw); go_simp; try rfl) hHeld ?_
                    go_frame
                    refine takeH (i := 3) (some 62) rfl rfl (by kernel_rfl) (by kernel_rfl) (by kernel_rfl) (fun _ _ _ h => h) (by rfl) (fun w hSw => by (try dsimp only at hSw); go_simp; try rfl) hHeld ?_
                    go_frame
                    refine takeH (i := 4) (some 63) rfl rfl (by kernel_rfl) (by kernel_rfl) (by kernel_rfl) (fun _ _ _ h => h) (by rfl) (fun w hSw => by (try dsimp only at hSw); have y6 := D1 _ hSw; go_simp; try rfl) hHeld ?_
                    go_frame
                    refine takeH (i := 5) (some 64) rfl rfl (by kernel_rfl) (by kernel_rfl) (by kernel_rfl) (fun _ _ _ h => h) (by rfl) (fun w hSw => by (try dsimp only at hSw); go_simp; try rfl) hHeld ?_
                    go_frame
                    refine takeH (i := 6) (some 65) rfl rfl (by kernel_rfl) (by kernel_rfl) (by kernel_rfl) (fun _ _ _ h => h) (by rfl) (fun w hSw => by (try dsimp only at hSw); go_simp; try rfl) hHeld ?_
                    go_frame
                    refine takeH (i := 7) (some 66) rfl rfl (by kernel_rfl) (by kernel_rfl) (by kernel_rfl) (fun _ _ _ h => h) (by rfl) (fun w hSw => by (try dsimp only at hSw); go_simp; try rfl) hHeld ?_
                    go_frame
                    refine takeH (i := 8) (some 67) rfl rfl (by kernel_rfl) (by kernel_rfl) (by kernel_rfl) (fun _ _ _ h => h) (by rfl) (fun w hSw => by (try dsimp only at hSw); go_simp; try rfl) hHeld ?_
                    go_frame
                    refine takeH (i := 9) (some 68) rfl rfl (by kernel_rfl) (by kernel_rfl) (by kernel_rfl) (fun _ _ _ h => h) (by rfl) (fun w hSw => by (try dsimp only at hSw); have y6 := D2 _ hSw; go_simp; try rfl) hHeld ?_
                    go_frame
                    refine wpAnyH_ready (rs := [10]) (by kernel_rfl) (by simp) (AllReadyH.cons rfl (fun K hK => ?_) AllReadyH.nil)
                    go_simp
                    refine (stands_any _ _ xl _ _ (hCx.keep hHeld) (hIy.keep hHeld) (by omega)).mono ?_
                    rintro e Y1 ⟨rfl, y1⟩
                    show K _ _
                    refine hK.out _ _ (ab_trans hHeld y1) (fun hHeld => ?_)
                    clear hK K
                    refine takeH (i := 11) (some 70) rfl rfl (by kernel_rfl) (by kernel_rfl) (by kernel_rfl) (fun _ _ _ h => h) (by rfl) (fun w hSw => by (try dsimp only at hSw); go_simp; try rfl) hHeld ?_
                    go_frame
                    refine wpAnyH_done (by kernel_rfl) ?_ _
                    have hbE := ab_trans hbY hHeld
                    clear D1 D2 hCx hIy
                    go_wp2_with fail
                    exact ⟨⟨i' + 1, by omega, rfl, hbE⟩, by simp only [intOf]; omega⟩
          · as_aux_lemma =>
              clear hR3 hC3 OZ HSc HSr hb3 hs HZ HN2 HK
              have hjn : k < nv := by omega
              have hji : (k : Int) < (nv : Int) := by omega
              obtain ⟨gg, cap', ee, hbb, hgg, hcc, hmm, -⟩ := own_cells h (fun e => by cases e; omega)
              cases ee
              have hys := owns_len h
              have d := h.cellAt k (by omega)
              have fz := h.frozenAt k
              obtain ⟨z, hzz⟩ : ∃ z, ys[k]? = some z := ⟨ys[k], List.getElem?_eq_getElem (by omega)⟩
              have hu9 : (ints ys)[k]? = some (.int .i64 z) := by rw [ints_at, hzz]; rfl
              rw [hu9] at d
              go_wp2_with fail
              have hst := (h.stored k (.int .i64 (-1))).1
              rw [show (ints ys).set k (.int .i64 (-1)) = ints (ys.set k (-1)) from by simp [ints, List.map_set]] at hst
              exact ⟨⟨k + 1, _, by omega, rfl, hst, hk1.set rfl _ _⟩, by simp only [intOf]; omega⟩
    · as_aux_lemma =>
        have hjm : j < m := by omega
        have hji : (j : Int) < (m : Int) := by omega
        obtain ⟨⟨rp, ra, rv, rl⟩, hr⟩ : ∃ r, os[j]? = some r := ⟨os[j]'(by omega), List.getElem?_eq_getElem _⟩
        have hg := hs.lt (by omega)
        obtain ⟨d0, d1, d2, d3, d4, d5, d6, ⟨sr, zr⟩⟩ := (hs.row j _ hr).keep hg hb
        obtain rfl := hs.ptr (by omega)
        dsimp only at d0 d1 d2 d3 d4 d5 d6 sr zr
        obtain ⟨qr, cr, e⟩ := sr.form
        subst e
        obtain ⟨nr, hnr⟩ : ∃ n, rl.length = n := ⟨_, rfl⟩
        rw [hnr] at sr d6 zr
        have HR : Hid (os[j]? = some ⟨rp, ra, .slice qr nr cr, rl⟩) := by rw [hnr] at hr; exact hr
        have HK : Hid (rs.map keyR = (os.take j).map keyR) := hK
        have HN2 : Hid (∀ r ∈ rs, r.l.length ≤ N) := hN2
        have HM : Hid (N ≤ j * 17592186043904) := hN1
        have hfew := few_n hN1 zr (by omega)
        clear hN1
        have x1 : IntKind.i64.wrap ((N : Int) + nr) = (N : Int) + nr := by simp [IntKind.wrap, IntKind.signed, IntKind.bits] <;> omega
        have x2 : wrap64 ((N : Int) + nr) = (N : Int) + nr := by unfold wrap64; omega
        clear hs hr hg hK hN2
        go_upto_region 10 with fail
        obtain ⟨V, hE, hX, hbV⟩ := blk1 wr (rC rp ra (.slice qr nr cr)) 46
        rw [hE]
        have hRV := hR.keep hbV
        have hCV := hC.keep hbV
        have srV := sr.keep hbV
        have hltV := hX.lt
        have HO : Hid (∀ k, Value.ownBlock (.slice q4 j c4) = some k → k < wr.heap.size) := fun k hk => (World.ownsRow.lt hR k hk).2
        have hb1V := ab_trans hb1 hbV
        have hbwV := ab_trans hb hbV
        have hs1 : W1.heap.size ≤ wr.heap.size := hb1.size
        clear hE d0 d1 d2 d3 d4 d5 d6 hR hC sr hb hb1 hbV
        generalize wr.heap.size = gr at *
        have z6 : V.cell? ⟨gr, 6, none⟩ = some (.slice qr nr cr) := hX.at rfl
        go_upto_region 11 with fail
        clear x1 x2 hfew
        go_wp2_with fail
        refine (marked_any _ rl _ srV (by omega)).mono ?_
        rintro e V2 ⟨vu, rfl, hCu, v2⟩
        obtain ⟨qu, cu, eu⟩ := hCu.is.form
        rw [hnr] at eu
        subst eu
        have hX2 := hX.keep v2
        have hR2 := hRV.keep v2
        have hC2 := hCV.keep v2
        have hCu2 := hCu.less hb1V.size
        have f6 := hX2.frozen 6
        have zz6 := hX2.at (i := 6) rfl
        have hb12 := ab_trans hb1V v2
        have hbw2 := ab_trans hbwV v2
        clear hX hRV hCV srV hCu v2 z6 hb1V hbwV
        go_upto_region 12 with fail
        have hX3 := hX2.set 6 (.slice qu nr cu)
        have C3 := chg_set V2 gr 6 (.slice qu nr cu)
        have hR3 : Ro _ W1.heap.size (.slice q4 j c4) rs := own_chgT hR2 C3 (fun e => by have := HO.out gr e; omega)
        have hC3 := hC2.other hX2 (by decide) C3
        have hCu3 := hCu2.other hX2 (by decide) C3
        have hb13 := hb12.trans (C3.below hs1)
        have hbw3 := hbw2.trans (C3.below (n := w.heap.size) (by omega))
        have hX4 : Blk (V2.setCell ⟨gr, 6, none⟩ (.slice qu nr cu)) gr (rC rp ra (.slice qu nr cu)) 46 := hX3
        clear hX2 hX3 C3 hR2 hC2 hCu2 hb12 hbw2 f6 zz6
        generalize V2.setCell ⟨gr, 6, none⟩ (.slice qu nr cu) = V3 at *
        obtain ⟨y0, y1, y2, y3, y4, y5, y6⟩ := cells7 hX4
        have hbv := Below.refl V3.heap.size V3
        go_wp2_with (first
          | (refine bs_r1 rfl rfl rp ra qu nr cu (by simp only [List.map_toArray, List.map_cons, List.map_nil]; rfl) ?_; intro V4 hN4 v4; go_frame)
          | (have mk := v4; clear mk; refine app_r W1 rfl rfl rl rfl (hR3.keep v4) rfl hN4 (by omega) (ab_trans hb13 v4) ?_; intro v5 V5 hR5 b5 g5; go_frame))
        have hR4 := hR3.keep v4
        have hC5 : CnA V5 W1.heap.size (rs ++ [⟨rp, ra, .slice qu nr cu, rl⟩]) := cna_snoc (fun r hr => ((hC3 r hr).keep v4).grown hR4 (by decide) g5) ((hCu3.keep v4).grown hR4 (by decide) g5)
        have hbw5 : Below w.heap.size w V5 := (ab_trans hbw3 v4).trans (below_ownE (own_less hR4 hz1) (Nat.le_trans hz1 (ab_trans hb13 v4).size) g5)
        obtain ⟨q5, c5, e5⟩ := ro_form hR5
        have hl5 : (rs ++ [(⟨rp, ra, .slice qu nr cu, rl⟩ : RrD)]).length = j + 1 := by simp [hrl]
        rw [hl5] at e5
        subst e5
        exact ⟨⟨j + 1, N + nr, q5, c5, _, by omega, rfl, by simp, rfl, hl5, hR5, hC5, key_snoc HK.out HR.out rfl, more_n HM.out zr, le_snoc HN2.out hnr, b5, hbw5⟩, by simp only [intOf]; omega⟩
theorem walk {W : World} (q : Option Addr) (m cap g off : Nat) (os : List RrD) (hs : RrRow W q m cap g off os) :
    Calls Try.prog 5 #[.slice q m cap] W fun e w' => e = .returned (.bool true) ∧ Below W.heap.size W w' :=
  newest_walk q m cap g off os W hs
theorem own : ownKnob Try.prog.godebug = none := by kernel_rfl
theorem laidOut : laidOutB Try.prog = true := by kernel_rfl

set_option maxRecDepth 100000 in
theorem lifted (os : Os) (started : os.Started) (H : Type) (enc : TypeId × Value → H) :
    ReturnsInHanded {} Try.checked os 5 .any (Rows.changeNewestSpec.pre6 enc Try.prog Try.f5 Rows.changeNewestRow.domain false) (Rows.changeNewestSpec.post enc Try.prog Try.f5 false true false false) := by
  refine returnsInHanded_of_change_sized (C := Try.checked) own started (by kernel_rfl) Try.func5
    (ChangeSpec.witness6 (enc := enc) (C := Try.checked) false ⟨#[], #[.slice none 0 0], []⟩ 8 (by kernel_rfl) (by kernel_rfl) (by kernel_rfl) (by kernel_rfl)) ?_
  intro W base args ds gs before hval0 hW hcnd hsz _
  have hval : ∀ (j : Nat) t v, Try.f5.params[j]? = some t → args[j]? = some v → Value.okWide Try.prog W .any base t v := hval0
  have hW' := hW
  obtain ⟨p, q, hA0, hV, rfl, hfz, hnd⟩ := hW
  have hA : DataW.TrodAll enc Try.prog W 0 (fun _ => true) true Try.f5.params.toList args.toList ds p := hA0
  rw [Try.params5] at hA hval
  obtain ⟨v0, vs0, d0, ds0, p0, q0, hargs, rfl, rfl, h0, r0⟩ := trodAll_cons hA
  obtain ⟨rfl, rfl, rfl⟩ := trodAll_nil r0
  obtain rfl : args = #[v0] := by cases args; simp_all
  obtain ⟨rfl, rfl⟩ := trodVars_none hV
  have k0 := h0
  have lt0 : ∀ x ∈ p0, x.block < W.heap.size := by obtain ⟨m, hm⟩ := k0; exact DataW.trod_lt m _ _ _ hm
  obtain ⟨sq0_, sn0_, sk0_, sg0_, so0_, os0_, rfl, Z0_⟩ := open_regs (hval 0 42 v0 rfl rfl) h0 (fun n hn => by simpa using List.all_eq_true.1 hsz n (DataW.weights_mem_each (j := 0) (t := 42) (by kernel_rfl) rfl n hn))
  clear hA0 hval0
  refine (walk sq0_ sn0_ sk0_ sg0_ so0_ os0_ Z0_).mono fun e W' ⟨he, bel⟩ => ?_
  subst he
  exact ⟨_, rfl, _, _, _, [], _, [], hW', trodAll_mk1 (shut_bool Try.underlying4 _), (trodAll_cons_mk (Below.trod laidOut (by kernel_rfl) (of_decide_eq_true (by kernel_rfl)) k0 bel lt0) trodAll_mk0), rfl, bel.frame _, fun h => by cases h⟩

theorem over : Rows.changeNewestRow.holds Try.pinned (OpenSpec.ofChange Rows.changeNewestSpec) :=
  OpenClaim.holds_of_wide 5 Try.f5 rfl rfl rfl rfl rfl rfl rfl ⟨rfl, rfl, rfl, rfl, rfl⟩ rfl rfl rfl rfl rfl (by kernel_rfl) Try.func5 (by kernel_rfl)
    (of_decide_eq_true (by kernel_rfl)) (by unfold Func.isWrapper; first | (rw [if_pos (by decide +kernel)]; kernel_rfl) | (rw [if_neg (by decide +kernel)]; exact ⟨rfl, rfl⟩))
    (fun os started H enc _ => lifted os started H enc)

theorem proved : Rows.ChangeNewestSaid := over
end Go.Proofs.Ytjmdekddkpadeaa.changeNewest
namespace Go.Proofs.Ytjmdekddkpadeaa
theorem changeNewest_holds : Rows.ChangeNewestSaid := changeNewest.proved
#print axioms changeNewest_holds
end Go.Proofs.Ytjmdekddkpadeaa
