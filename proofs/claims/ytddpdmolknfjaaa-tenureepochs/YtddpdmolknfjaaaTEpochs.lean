/-
  Epochs rise by one with each holder: estuarylaw13.TenureEpochs returns true for every input; no condition.
-/
import Derived.Test.YtddpdmolknfjaaaEpM
import Derived.Test.YtddpdmolknfjaaaFlat
import Derived.ProofKit
import Derived.OpenShut
import Derived.ChangeOld
import Derived.Below
namespace Go.Proofs.Ytddpdmolknfjaaa.tenureEpochs
open Go.ChangeShapes Go.WideShapes Go.ChangeAt Go.RowKit Go.Joins
set_option linter.unusedVariables false

theorem neB0 (w : World) : (binOp .neq 42 (Err 11) .nilIface).run Try.prog w = .ok (.bool true) w := by kernel_rfl
theorem neBB (w : World) : (binOp .neq 42 (Err 11) (Err 11)).run Try.prog w = .ok (.bool false) w := by kernel_rfl
abbrev apC (bs : Nat → Nat) (j : Nat) : Array Value := #[if 0 < j then wptr (bs 0) else .pointer none, if 1 < j then wptr (bs 1) else .pointer none, if 2 < j then wptr (bs 2) else .pointer none]
theorem apC_set (bs : Nat → Nat) {j : Nat} (h : j < 3) (b : Nat) : (apC bs j).setIfInBounds j (wptr b) = apC (upd bs j b) (j + 1) := by rcases three h with rfl | rfl | rfl <;> rfl
theorem apC_at (bs : Nat → Nat) {j : Nat} (h : j < 3) : ∃ p, (apC bs j)[j]? = some (.pointer p) := by rcases three h with rfl | rfl | rfl <;> exact ⟨_, rfl⟩
set_option maxRecDepth 100000 in
set_option maxHeartbeats 8000000 in
theorem epochs_walk (ti : Int) (q : Option Addr) (g off m cap : Nat) (l : List (Nat → Int)) (w : World) (hlen : l.length = m) (hcap : m ≤ cap) (hp : 0 < m → q = some ⟨g, off, none⟩) (hg : ∀ _ : 0 < m, g < w.heap.size)
    (hc : ∀ j c, l[j]? = some c → ∀ i, i < 2 → w.cell? ⟨g, off + j * 2 + i, none⟩ = some (.int .i64 (c i))) :
    Calls Try.prog 5 #[.int .i64 ti, .slice q m cap] w fun e w' => e = .returned (.bool true) ∧ Below w.heap.size w w' := by
  go_enter Try.func5, Try.ntmps5
  go_wp2_with fail
  refine (alive13_any _).mono ?_
  rintro e W1 ⟨rfl, b1⟩
  by_cases cm : m ≤ 600
  rotate_left
  · have cm2 : (600 : Int) < (m : Int) := by omega
    go_wp2_with fail
    go_ret
    exact ⟨rfl, b1⟩
  have cm2 : ¬ (600 : Int) < (m : Int) := by omega
  go_upto_region 5 with fail
  clear cm2
  obtain ⟨k1, h1, e1⟩ := mod_nat13 ti 20 (by omega) (by omega)
  go_upto_region 6 with fail
  rw [show 1 + (k1 : Int) = ((k1 + 1 : Nat) : Int) by omega]
  obtain ⟨t, ht⟩ : ∃ t, k1 + 1 = t := ⟨_, rfl⟩
  rw [ht]
  have t1 : 1 ≤ t := by omega
  have t20 : t ≤ 20 := by omega
  clear e1 h1 ht
  obtain ⟨A, hAe, hB5, hB6, hwA⟩ := blk2 W1 (apC (fun _ => 0) 0) (lvC (fun _ => 0)) 39 40
  go_upto_region 7 with fail
  rw [show (W1.alloc (.cells #[.pointer none, .pointer none, .pointer none] 39)).alloc (.cells #[.int .i64 0, .int .i64 0, .int .i64 0] 40) = A from hAe]
  clear hAe
  go_wp2_with fail
  go_loopw [36] (fun i wr => ∃ (j : Nat) (bs : Nat → Nat), j ≤ 3 ∧ i = .int .i64 (j : Int) ∧ Blk wr W1.heap.size (apC bs j) 39 ∧ Blk wr (W1.heap.size + 1) (lvC (fun _ => 0)) 40 ∧ (∀ k, k < j → Wh wr W1.heap.size (bs k) (newW (k : Int) 0 (t : Int))) ∧ (∀ i k, i < j → k < j → i ≠ k → bs i ≠ bs k) ∧ Below W1.heap.size W1 wr) (fun i _ => 3 - (intOf i).toNat)
  case atStart => exact ⟨0, fun _ => 0, by omega, rfl, hB5, hB6, fun k hk => absurd hk (by omega), fun i k hi => absurd hi (by omega), hwA⟩
  case round =>
    clear hB5 hB6 hwA
    obtain ⟨j, bs, hj, rfl, hB5, hB6, hWs, hds, hb⟩ := hrel
    by_cases cj : j = 3
    rotate_left
    · have hj3 : j < 3 := by omega
      have hji : (j : Int) < 3 := by omega
      go_wp2_with fail
      refine (tnew_ok (j : Int) 0 (t : Int) _ (by omega)).mono ?_
      rintro e V1 ⟨b, rfl, hV1, v1⟩
      have hB5' := hB5.keep v1
      obtain ⟨p5, hp5⟩ := apC_at bs hj3
      have y5 : V1.cell? ⟨W1.heap.size, j, none⟩ = some (.pointer p5) := hB5'.at hp5
      have f5 := hB5'.frozen j
      have hlt5 := hB5'.lt
      go_wp2_with fail
      have C5 := chg_set V1 W1.heap.size j (wptr b)
      have F5 : Frm (fun x => x = W1.heap.size) V1 (V1.setCell ⟨W1.heap.size, j, none⟩ (wptr b)) := frm_chg C5 rfl
      have N5 : NoI (fun x => x = W1.heap.size) V1 := fun x hx hi => by subst hx; exact absurd (hB5'.kindR.uniq hi) (by decide)
      have hbge := hV1.ge
      have hwr5 := hB5.lt
      refine ⟨⟨j + 1, upd bs j b, by omega, rfl, ?_, (hB6.keep v1).chg C5 (by omega), fun k hk => ?_, fun i k hi hk hik => ?_, ab_chg (hb.trans (v1.mono hb.size)) C5 (Nat.le_refl _)⟩, by simp only [intOf]; omega⟩
      · rw [← apC_set bs hj3 b]
        exact hB5'.set j _
      · by_cases e : k = j
        · subst e
          rw [upd_at]
          exact (hV1.less hb.size).frm F5 (by omega) N5
        · rw [upd_ne _ _ e]
          have h9 := hWs k (by omega)
          obtain ⟨_, _, h8, _⟩ := h9.mem
          exact (h9.keep v1).frm F5 (blk_ne h8 hB5 (by decide)) N5
      · by_cases e : i = j
        · subst e
          rw [upd_at, upd_ne _ _ (fun e => hik e.symm)]
          have := (hWs k (by omega)).lt
          omega
        · by_cases e2 : k = j
          · subst e2
            rw [upd_at, upd_ne _ _ e]
            have := (hWs i (by omega)).lt
            omega
          · rw [upd_ne _ _ e, upd_ne _ _ e2]
            exact hds i k (by omega) (by omega) hik
    · subst cj
      have hB5 : Blk _ W1.heap.size (arC bs) 39 := hB5
      obtain ⟨V2, hV2e, -, v2⟩ := blk1 wr #[] 3
      have hN2 : V2.ownsRow wr.heap.size 3 1 (.slice (some ⟨wr.heap.size, 0, none⟩) 0 0) 0 (ints []) := by rw [← hV2e]; exact own_empty wr wr 3 1 (Nat.le_refl _)
      go_upto_region 13 with fail
      clear hV2e
      obtain ⟨V9, hVe, hB8, v9⟩ := blk1 V2 (leC zL) 29
      go_upto_region 14 with (refine st_le rfl rfl (k1 := zL) hB8 rfl rfl ?_; intro V3 hB9 C9)
      have v3 : Below V2.heap.size V2 V3 := ab_chg v9 C9 (Nat.le_refl _)
      clear hVe hB8 v9 C9
      have v23 := ab_trans v2 v3
      have hO3 : Io V3 W1.heap.size _ [] := ((io_of (l := []) hN2).less hb.size).keep v3
      have hE3 : Em V3 W1.heap.size W1.heap.size (W1.heap.size + 1) V2.heap.size bs (fun k => newW (k : Int) 0 (t : Int)) (fun _ => 0) zL := ⟨hB5.keep v23, hB6.keep v23, hB9, fun k hk => (hWs k hk).keep v23, hds, Nat.le_refl _, Nat.le_succ _, Nat.le_trans hb.size v2.size⟩
      have hI3 : EpI 0 [] zL (fun k => newW (k : Int) 0 (t : Int)) (fun _ => 0) := ⟨.inl ⟨rfl, rfl⟩, by decide, fun k hk => wok_new k 0 _ (Int.le_refl _), fun k hk => by decide⟩
      have hb3 : Below W1.heap.size W1 V3 := ab_trans hb v23
      clear hB5 hB6 hWs hds hb hN2 v2 hB9 v3 v23
      obtain ⟨g9, hg9⟩ : ∃ g, V2.heap.size = g := ⟨_, rfl⟩
      rw [hg9] at hE3 ⊢
      clear hg9
      go_wp2_with fail
      go_loopw [8, 52] (fun v i wr => ∃ (j : Nat) (bs : Nat → Nat) (Sf : Nat → Wt) (lv : Nat → Int) (la : Le) (val : List Int) (q8 : Option Addr) (c8 : Nat), j ≤ m ∧ i = .int .i64 (j : Int) ∧ v = .slice q8 val.length c8 ∧ Em wr W1.heap.size W1.heap.size (W1.heap.size + 1) g9 bs Sf lv la ∧ Io wr W1.heap.size (.slice q8 val.length c8) val ∧ EpI j val la Sf lv ∧ Below W1.heap.size W1 wr) (fun v i _ => m - (intOf i).toNat)
      case atStart => exact ⟨0, bs, _, _, zL, [], _, 0, by omega, rfl, rfl, hE3, hO3, hI3, hb3⟩
      case round =>
        clear hE3 hO3 hI3 hb3
        obtain ⟨j, bs, Sf, lv, la, val, q8, c8, hj, rfl, rfl, hE, hO, hI, hb⟩ := hrel
        by_cases cj : j = m
        · subst cj
          clear hc hp hg
          go_wp2_with fail
          go_ret
          exact ⟨rfl, ab_trans b1 hb⟩
        have hjm : j < m := by omega
        have hji : (j : Int) < (m : Int) := by omega
        obtain ⟨c, hcx⟩ : ∃ c, l[j]? = some c := ⟨l[j]'(by omega), List.getElem?_eq_getElem _⟩
        obtain rfl := hp (by omega)
        have hgw := hg (by omega)
        have hbw := ab_trans b1 hb
        have d0 := keep_cell hbw (hc j c hcx 0 (by omega)) hgw
        have d1 := keep_cell hbw (hc j c hcx 1 (by omega)) hgw
        rw [Nat.add_zero] at d0
        obtain ⟨kd, hkd⟩ : ∃ x, c 0 = x := ⟨_, rfl⟩
        obtain ⟨wh, hwh⟩ : ∃ x, c 1 = x := ⟨_, rfl⟩
        rw [hkd] at d0
        rw [hwh] at d1
        clear hkd hwh hcx hgw
        obtain ⟨A, hAe, hA, vA⟩ := blk1 wr #[.int .i64 kd, .int .i64 wh] 46
        go_upto_region 17 with fail
        clear hAe d0 d1
        have hE := hE.keep vA
        have hO := hO.keep vA
        have hbA := hb.trans (vA.mono hb.size)
        have a0 : A.cell? ⟨wr.heap.size, 0, none⟩ = some (.int .i64 kd) := hA.at rfl
        have a1 : A.cell? ⟨wr.heap.size, 1, none⟩ = some (.int .i64 wh) := hA.at rfl
        clear hA vA hb hbw
        obtain ⟨k, hk3, hke⟩ := mod_nat13 wh 3 (by omega) (by omega)
        have Hke : Hid (wrap64 ((IntKind.u64.wrap wh).tmod 3) = (k : Int)) := hke
        clear hke
        have hk : k < 3 := by omega
        go_upto_region 18 with fail
        rw [Hke.out]
        have y5 : A.cell? ⟨W1.heap.size, k, none⟩ = some (wptr (bs k)) := hE.arr.at (arC_at bs hk)
        go_upto_region 22 with fail
        clear y5 a0 a1
        have hIS := hI.va.stp
        have hbe := hI.be
        by_cases k0 : kd = 0
        · have z0 : (kd == 0) = true := by simp [k0]
          clear k0
          go_wp2_with fail
          refine (ttick_any _ _ _ _ (hE.wat k hk)).mono ?_
          rintro e V1 ⟨rfl, hV, C⟩
          have hE1 := hE.frm hk (frm_chg (X := fun x => x = bs k) C rfl) hV
          have hO1 := hO.frm (frm_chg (X := fun x => x = bs k) C rfl) (hE.wat k hk).noI
          have hb1 := hbA.trans (C.below (hE.wat k hk).ge)
          clear C hV hE hO hbA z0
          as_aux_lemma =>
            go_wp2_with fail
            refine (ttake_any _ val _ hO1.is).mono ?_
            rintro e X1 ⟨rfl, x1⟩
            obtain ⟨B, hBe, hL, hwL⟩ := blk1 X1 (leC zL) 29
            obtain ⟨x, hx⟩ : ∃ x, tkL (val) = x := ⟨_, rfl⟩
            rw [hx]
            cases hl : isL (val)
            · have hv0 : val = [] := by
                rcases hIS with ⟨h, -⟩ | ⟨h, -⟩
                · exact h
                · rw [hl] at h; cases h
              have hP := (hI.one (k := k) hIS ((hI.wo k hk).tick.up hIS.le))
              rw [nowL_no hl] at hP
              have n0 : (((val).length : Int) != 0) = false := by rw [hv0]; rfl
              have HV : Hid (val = []) := hv0
              clear hv0
              go_upto_region 33 with (refine st_le rfl rfl (k1 := x) hL rfl rfl ?_; intro X2 hL2 C2)
              have x2 : Below (V1).heap.size V1 X2 := ab_trans x1 (ab_chg hwL C2 (Nat.le_refl _))
              have hE2 := (hE1).keep x2
              have hO2 := (hO1).keep x2
              have hb2 := (hb1).trans (x2.mono (hb1).size)
              clear hBe hL hwL C2 hL2 x1 x2
              go_wp2_with fail
              exact ⟨⟨j + 1, bs, (upd Sf k (tickW (Sf k))), lv, la, val, q8, c8, by omega, rfl, (by first | rfl | (rw [HV.out]; rfl)), hE2, hO2, hP, hb2⟩, by simp only [intOf]; omega⟩
            · have hP := (hI.one (k := k) hIS ((hI.wo k hk).tick.up hIS.le))
              rw [nowL_yes hl, hx] at hP
              have hQ : (x.e = la.e ∧ x.h = la.h ∧ x.l = la.l ∧ la.b ≤ x.b ∧ x.b ≤ la.b + 1) ∨ (x.e = la.e + 1 ∧ x.b = 0) := by
                rcases hIS with ⟨h, -⟩ | ⟨-, h⟩
                · rw [h] at hl; cases hl
                · rw [hx] at h; exact h
              go_upto_region 33 with (refine st_le rfl rfl (k1 := x) hL rfl rfl ?_; intro X2 hL2 C2)
              have x2 : Below (V1).heap.size V1 X2 := ab_trans x1 (ab_chg hwL C2 (Nat.le_refl _))
              have hE2 := (hE1).keep x2
              have hO2 := (hO1).keep x2
              have hb2 := (hb1).trans (x2.mono (hb1).size)
              clear hBe hL hwL C2 hl hx
              have l0 : X2.cell? ⟨X1.heap.size, 0, none⟩ = some (.int .i64 x.e) := hL2.at rfl
              have l1 : X2.cell? ⟨X1.heap.size, 1, none⟩ = some (.int .i64 x.h) := hL2.at rfl
              have l2 : X2.cell? ⟨X1.heap.size, 2, none⟩ = some (.int .i64 x.l) := hL2.at rfl
              have l3 : X2.cell? ⟨X1.heap.size, 3, none⟩ = some (.int .i64 x.b) := hL2.at rfl
              have m0 : X2.cell? ⟨g9, 0, none⟩ = some (.int .i64 la.e) := hE2.las.at rfl
              have m1 : X2.cell? ⟨g9, 1, none⟩ = some (.int .i64 la.h) := hE2.las.at rfl
              have m2 : X2.cell? ⟨g9, 2, none⟩ = some (.int .i64 la.l) := hE2.las.at rfl
              have m3 : X2.cell? ⟨g9, 3, none⟩ = some (.int .i64 la.b) := hE2.las.at rfl
              have hne : X1.heap.size ≠ g9 := by have := (hE1).las.lt; have := x1.size; omega
              go_upto_region 36 with fail
              clear x1 x2
              rcases hQ with ⟨q1, q2, q3, q4, q5⟩ | ⟨q1, q2⟩
              · have r1 : (x.e == la.e) = true := by simp [q1]
                have r2 : (x.h == la.h) = true := by simp [q2]
                have r3 : (x.l == la.l) = true := by simp [q3]
                have r4 : (x.e == la.e + 1) = false := by rw [beq_eq_false_iff_ne]; omega
                clear q1 q2 q3
                go_upto_region 40 with fail
                clear l0 l1 l2 l3 m0 m1 m2 m3 r1 r2 r3 r4 q4 q5
                go_upto_region 41 with (first
                  | (refine ld_blk rfl rfl hL2 rfl _ Try.underlying29 rfl (info_le x) ?_)
                  | (refine st_le rfl rfl (k1 := x) hE2.las rfl rfl ?_; intro X3 hB9 C9))
                have hE3 := hE2.last hB9 C9
                have hO3 := own_chgT hO2 C9 (fun e => absurd (hE2.las.kindR.uniq (own_kindR hO2 e)) (by decide))
                have hb3 := ab_chg hb2 C9 hE2.ge.2.2
                have hL3 := hL2.chg C9 hne
                clear hL2 C9 hB9 hE2 hO2 hb2
                go_wp2_with (refine ld_blk rfl rfl hE3.arr rfl _ Try.underlying39 rfl (info_ar _) ?_)
                go_loopw [174] (fun i wr => ∃ r : Nat, r ≤ 3 ∧ i = .int .i64 (r : Int) ∧ Below X3.heap.size X3 wr) (fun i _ => 3 - (intOf i).toNat)
                case atStart => exact ⟨0, by omega, rfl, Below.refl _ _⟩
                case round =>
                  obtain ⟨r, hr, rfl, hbr⟩ := hrel
                  by_cases cr : r = 3
                  · subst cr
                    have hE4 := hE3.keep hbr
                    have hO4 := Io.keep hO3 hbr
                    have hb4 := ab_trans hb3 hbr
                    clear hE3 hO3 hb3 hL3 hbr
                    go_wp2_with fail
                    exact ⟨⟨j + 1, bs, (upd Sf k (tickW (Sf k))), lv, x, val, q8, c8, by omega, rfl, rfl, hE4, hO4, hP, hb4⟩, by simp only [intOf]; omega⟩
                  · have hr3 : r < 3 := by omega
                    have hri : (r : Int) < 3 := by omega
                    have hix := ix3 (bs) hr3
                    have hWr := (hE3.wat r hr3).keep hbr
                    go_wp2_with fail
                    refine (tleads_any _ _ _ _ hWr).mono ?_
                    rintro e Y1 ⟨rfl, y1⟩
                    have hby := ab_trans hbr y1
                    have l0 : Y1.cell? ⟨X1.heap.size, 0, none⟩ = some (.int .i64 x.e) := (hL3.keep hby).at rfl
                    clear hix hWr
                    cases hld : ldB ((upd Sf k (tickW (Sf k))) r)
                    · go_wp2_with fail
                      exact ⟨⟨r + 1, by omega, rfl, hby⟩, by simp only [intOf]; omega⟩
                    · have hle := led hP hr3 hld
                      have hle2 : ¬ x.e < ldN ((upd Sf k (tickW (Sf k))) r) := by omega
                      clear hld hle
                      go_wp2_with fail
                      exact ⟨⟨r + 1, by omega, rfl, hby⟩, by simp only [intOf]; omega⟩
              · have r1 : (x.e == la.e) = false := by rw [beq_eq_false_iff_ne]; omega
                have r2 : (x.e == la.e + 1) = true := by simp [q1]
                have r3 : (x.b == 0) = true := by simp [q2]
                clear q1 q2
                go_upto_region 40 with fail
                clear l0 l1 l2 l3 m0 m1 m2 m3 r1 r2 r3
                go_upto_region 41 with (first
                  | (refine ld_blk rfl rfl hL2 rfl _ Try.underlying29 rfl (info_le x) ?_)
                  | (refine st_le rfl rfl (k1 := x) hE2.las rfl rfl ?_; intro X3 hB9 C9))
                have hE3 := hE2.last hB9 C9
                have hO3 := own_chgT hO2 C9 (fun e => absurd (hE2.las.kindR.uniq (own_kindR hO2 e)) (by decide))
                have hb3 := ab_chg hb2 C9 hE2.ge.2.2
                have hL3 := hL2.chg C9 hne
                clear hL2 C9 hB9 hE2 hO2 hb2
                go_wp2_with (refine ld_blk rfl rfl hE3.arr rfl _ Try.underlying39 rfl (info_ar _) ?_)
                go_loopw [174] (fun i wr => ∃ r : Nat, r ≤ 3 ∧ i = .int .i64 (r : Int) ∧ Below X3.heap.size X3 wr) (fun i _ => 3 - (intOf i).toNat)
                case atStart => exact ⟨0, by omega, rfl, Below.refl _ _⟩
                case round =>
                  obtain ⟨r, hr, rfl, hbr⟩ := hrel
                  by_cases cr : r = 3
                  · subst cr
                    have hE4 := hE3.keep hbr
                    have hO4 := Io.keep hO3 hbr
                    have hb4 := ab_trans hb3 hbr
                    clear hE3 hO3 hb3 hL3 hbr
                    go_wp2_with fail
                    exact ⟨⟨j + 1, bs, (upd Sf k (tickW (Sf k))), lv, x, val, q8, c8, by omega, rfl, rfl, hE4, hO4, hP, hb4⟩, by simp only [intOf]; omega⟩
                  · have hr3 : r < 3 := by omega
                    have hri : (r : Int) < 3 := by omega
                    have hix := ix3 (bs) hr3
                    have hWr := (hE3.wat r hr3).keep hbr
                    go_wp2_with fail
                    refine (tleads_any _ _ _ _ hWr).mono ?_
                    rintro e Y1 ⟨rfl, y1⟩
                    have hby := ab_trans hbr y1
                    have l0 : Y1.cell? ⟨X1.heap.size, 0, none⟩ = some (.int .i64 x.e) := (hL3.keep hby).at rfl
                    clear hix hWr
                    cases hld : ldB ((upd Sf k (tickW (Sf k))) r)
                    · go_wp2_with fail
                      exact ⟨⟨r + 1, by omega, rfl, hby⟩, by simp only [intOf]; omega⟩
                    · have hle := led hP hr3 hld
                      have hle2 : ¬ x.e < ldN ((upd Sf k (tickW (Sf k))) r) := by omega
                      clear hld hle
                      go_wp2_with fail
                      exact ⟨⟨r + 1, by omega, rfl, hby⟩, by simp only [intOf]; omega⟩
        have z0 : (kd == 0) = false := by simp [k0]
        by_cases k1' : kd = 1
        · have z1 : (kd == 1) = true := by simp [k1']
          clear k0 k1'
          go_wp2_with fail
          refine (tsaw_any _ _ _ _ val _ (hE.wat k hk) hO.is (by have := hI.va.vok.len; omega)).mono ?_
          rintro e V1 ⟨rfl, hV, F⟩
          have hE1 := hE.frm hk F hV
          have hO1 := hO.frm F (hE.wat k hk).noI
          have hb1 := hbA.trans ((hE.wat k hk).below F)
          clear F hV hE hO hbA z0 z1
          as_aux_lemma =>
            go_wp2_with fail
            refine (ttake_any _ val _ hO1.is).mono ?_
            rintro e X1 ⟨rfl, x1⟩
            obtain ⟨B, hBe, hL, hwL⟩ := blk1 X1 (leC zL) 29
            obtain ⟨x, hx⟩ : ∃ x, tkL (val) = x := ⟨_, rfl⟩
            rw [hx]
            cases hl : isL (val)
            · have hv0 : val = [] := by
                rcases hIS with ⟨h, -⟩ | ⟨h, -⟩
                · exact h
                · rw [hl] at h; cases h
              have hP := (hI.one (k := k) hIS ((hI.wo k hk).saw hIS))
              rw [nowL_no hl] at hP
              have n0 : (((val).length : Int) != 0) = false := by rw [hv0]; rfl
              have HV : Hid (val = []) := hv0
              clear hv0
              go_upto_region 33 with (refine st_le rfl rfl (k1 := x) hL rfl rfl ?_; intro X2 hL2 C2)
              have x2 : Below (V1).heap.size V1 X2 := ab_trans x1 (ab_chg hwL C2 (Nat.le_refl _))
              have hE2 := (hE1).keep x2
              have hO2 := (hO1).keep x2
              have hb2 := (hb1).trans (x2.mono (hb1).size)
              clear hBe hL hwL C2 hL2 x1 x2
              go_wp2_with fail
              exact ⟨⟨j + 1, bs, (upd Sf k (sawW (Sf k) val)), lv, la, val, q8, c8, by omega, rfl, (by first | rfl | (rw [HV.out]; rfl)), hE2, hO2, hP, hb2⟩, by simp only [intOf]; omega⟩
            · have hP := (hI.one (k := k) hIS ((hI.wo k hk).saw hIS))
              rw [nowL_yes hl, hx] at hP
              have hQ : (x.e = la.e ∧ x.h = la.h ∧ x.l = la.l ∧ la.b ≤ x.b ∧ x.b ≤ la.b + 1) ∨ (x.e = la.e + 1 ∧ x.b = 0) := by
                rcases hIS with ⟨h, -⟩ | ⟨-, h⟩
                · rw [h] at hl; cases hl
                · rw [hx] at h; exact h
              go_upto_region 33 with (refine st_le rfl rfl (k1 := x) hL rfl rfl ?_; intro X2 hL2 C2)
              have x2 : Below (V1).heap.size V1 X2 := ab_trans x1 (ab_chg hwL C2 (Nat.le_refl _))
              have hE2 := (hE1).keep x2
              have hO2 := (hO1).keep x2
              have hb2 := (hb1).trans (x2.mono (hb1).size)
              clear hBe hL hwL C2 hl hx
              have l0 : X2.cell? ⟨X1.heap.size, 0, none⟩ = some (.int .i64 x.e) := hL2.at rfl
              have l1 : X2.cell? ⟨X1.heap.size, 1, none⟩ = some (.int .i64 x.h) := hL2.at rfl
              have l2 : X2.cell? ⟨X1.heap.size, 2, none⟩ = some (.int .i64 x.l) := hL2.at rfl
              have l3 : X2.cell? ⟨X1.heap.size, 3, none⟩ = some (.int .i64 x.b) := hL2.at rfl
              have m0 : X2.cell? ⟨g9, 0, none⟩ = some (.int .i64 la.e) := hE2.las.at rfl
              have m1 : X2.cell? ⟨g9, 1, none⟩ = some (.int .i64 la.h) := hE2.las.at rfl
              have m2 : X2.cell? ⟨g9, 2, none⟩ = some (.int .i64 la.l) := hE2.las.at rfl
              have m3 : X2.cell? ⟨g9, 3, none⟩ = some (.int .i64 la.b) := hE2.las.at rfl
              have hne : X1.heap.size ≠ g9 := by have := (hE1).las.lt; have := x1.size; omega
              go_upto_region 36 with fail
              clear x1 x2
              rcases hQ with ⟨q1, q2, q3, q4, q5⟩ | ⟨q1, q2⟩
              · have r1 : (x.e == la.e) = true := by simp [q1]
                have r2 : (x.h == la.h) = true := by simp [q2]
                have r3 : (x.l == la.l) = true := by simp [q3]
                have r4 : (x.e == la.e + 1) = false := by rw [beq_eq_false_iff_ne]; omega
                clear q1 q2 q3
                go_upto_region 40 with fail
                clear l0 l1 l2 l3 m0 m1 m2 m3 r1 r2 r3 r4 q4 q5
                go_upto_region 41 with (first
                  | (refine ld_blk rfl rfl hL2 rfl _ Try.underlying29 rfl (info_le x) ?_)
                  | (refine st_le rfl rfl (k1 := x) hE2.las rfl rfl ?_; intro X3 hB9 C9))
                have hE3 := hE2.last hB9 C9
                have hO3 := own_chgT hO2 C9 (fun e => absurd (hE2.las.kindR.uniq (own_kindR hO2 e)) (by decide))
                have hb3 := ab_chg hb2 C9 hE2.ge.2.2
                have hL3 := hL2.chg C9 hne
                clear hL2 C9 hB9 hE2 hO2 hb2
                go_wp2_with (refine ld_blk rfl rfl hE3.arr rfl _ Try.underlying39 rfl (info_ar _) ?_)
                go_loopw [174] (fun i wr => ∃ r : Nat, r ≤ 3 ∧ i = .int .i64 (r : Int) ∧ Below X3.heap.size X3 wr) (fun i _ => 3 - (intOf i).toNat)
                case atStart => exact ⟨0, by omega, rfl, Below.refl _ _⟩
                case round =>
                  obtain ⟨r, hr, rfl, hbr⟩ := hrel
                  by_cases cr : r = 3
                  · subst cr
                    have hE4 := hE3.keep hbr
                    have hO4 := Io.keep hO3 hbr
                    have hb4 := ab_trans hb3 hbr
                    clear hE3 hO3 hb3 hL3 hbr
                    go_wp2_with fail
                    exact ⟨⟨j + 1, bs, (upd Sf k (sawW (Sf k) val)), lv, x, val, q8, c8, by omega, rfl, rfl, hE4, hO4, hP, hb4⟩, by simp only [intOf]; omega⟩
                  · have hr3 : r < 3 := by omega
                    have hri : (r : Int) < 3 := by omega
                    have hix := ix3 (bs) hr3
                    have hWr := (hE3.wat r hr3).keep hbr
                    go_wp2_with fail
                    refine (tleads_any _ _ _ _ hWr).mono ?_
                    rintro e Y1 ⟨rfl, y1⟩
                    have hby := ab_trans hbr y1
                    have l0 : Y1.cell? ⟨X1.heap.size, 0, none⟩ = some (.int .i64 x.e) := (hL3.keep hby).at rfl
                    clear hix hWr
                    cases hld : ldB ((upd Sf k (sawW (Sf k) val)) r)
                    · go_wp2_with fail
                      exact ⟨⟨r + 1, by omega, rfl, hby⟩, by simp only [intOf]; omega⟩
                    · have hle := led hP hr3 hld
                      have hle2 : ¬ x.e < ldN ((upd Sf k (sawW (Sf k) val)) r) := by omega
                      clear hld hle
                      go_wp2_with fail
                      exact ⟨⟨r + 1, by omega, rfl, hby⟩, by simp only [intOf]; omega⟩
              · have r1 : (x.e == la.e) = false := by rw [beq_eq_false_iff_ne]; omega
                have r2 : (x.e == la.e + 1) = true := by simp [q1]
                have r3 : (x.b == 0) = true := by simp [q2]
                clear q1 q2
                go_upto_region 40 with fail
                clear l0 l1 l2 l3 m0 m1 m2 m3 r1 r2 r3
                go_upto_region 41 with (first
                  | (refine ld_blk rfl rfl hL2 rfl _ Try.underlying29 rfl (info_le x) ?_)
                  | (refine st_le rfl rfl (k1 := x) hE2.las rfl rfl ?_; intro X3 hB9 C9))
                have hE3 := hE2.last hB9 C9
                have hO3 := own_chgT hO2 C9 (fun e => absurd (hE2.las.kindR.uniq (own_kindR hO2 e)) (by decide))
                have hb3 := ab_chg hb2 C9 hE2.ge.2.2
                have hL3 := hL2.chg C9 hne
                clear hL2 C9 hB9 hE2 hO2 hb2
                go_wp2_with (refine ld_blk rfl rfl hE3.arr rfl _ Try.underlying39 rfl (info_ar _) ?_)
                go_loopw [174] (fun i wr => ∃ r : Nat, r ≤ 3 ∧ i = .int .i64 (r : Int) ∧ Below X3.heap.size X3 wr) (fun i _ => 3 - (intOf i).toNat)
                case atStart => exact ⟨0, by omega, rfl, Below.refl _ _⟩
                case round =>
                  obtain ⟨r, hr, rfl, hbr⟩ := hrel
                  by_cases cr : r = 3
                  · subst cr
                    have hE4 := hE3.keep hbr
                    have hO4 := Io.keep hO3 hbr
                    have hb4 := ab_trans hb3 hbr
                    clear hE3 hO3 hb3 hL3 hbr
                    go_wp2_with fail
                    exact ⟨⟨j + 1, bs, (upd Sf k (sawW (Sf k) val)), lv, x, val, q8, c8, by omega, rfl, rfl, hE4, hO4, hP, hb4⟩, by simp only [intOf]; omega⟩
                  · have hr3 : r < 3 := by omega
                    have hri : (r : Int) < 3 := by omega
                    have hix := ix3 (bs) hr3
                    have hWr := (hE3.wat r hr3).keep hbr
                    go_wp2_with fail
                    refine (tleads_any _ _ _ _ hWr).mono ?_
                    rintro e Y1 ⟨rfl, y1⟩
                    have hby := ab_trans hbr y1
                    have l0 : Y1.cell? ⟨X1.heap.size, 0, none⟩ = some (.int .i64 x.e) := (hL3.keep hby).at rfl
                    clear hix hWr
                    cases hld : ldB ((upd Sf k (sawW (Sf k) val)) r)
                    · go_wp2_with fail
                      exact ⟨⟨r + 1, by omega, rfl, hby⟩, by simp only [intOf]; omega⟩
                    · have hle := led hP hr3 hld
                      have hle2 : ¬ x.e < ldN ((upd Sf k (sawW (Sf k) val)) r) := by omega
                      clear hld hle
                      go_wp2_with fail
                      exact ⟨⟨r + 1, by omega, rfl, hby⟩, by simp only [intOf]; omega⟩
        have z1 : (kd == 1) = false := by simp [k1']
        by_cases k2 : kd = 2
        · have z2 : (kd == 2) = true := by simp [k2]
          clear k0 k1' k2
          obtain ⟨NN, hS2⟩ := stp_do hI.va hI.be (by omega) (hI.wo k hk) (hI.li k hk).1
          go_wp2_with fail
          refine (twant_any _ _ _ _ (hE.wat k hk)).mono ?_
          rintro e V1 ⟨⟨qa, ca, qb, cb, rfl, hP1, hP2⟩, v1⟩
          go_wp2_with fail
          refine (gdo_any ⟨wnK (Sf k), wnO (Sf k), wnN (Sf k)⟩ _ _ _ val _ hP1.is hP2.is (hO.keep v1).is (by have := hI.va.vok.len; omega)).mono ?_
          rintro e V2 ⟨⟨q2, n2, c2, rfl, hO2, hn2⟩, v2⟩
          obtain ⟨val2, hval2⟩ : ∃ x, doL ⟨wnK (Sf k), wnO (Sf k), wnN (Sf k)⟩ val = x := ⟨_, rfl⟩
          rw [hval2] at hS2 hO2 hn2
          subst hn2
          have v12 := ab_trans v1 v2
          have hE2' := hE.keep v12
          have hO2' := hO2.less (Nat.le_trans hE.le v1.size)
          have hb2' := hbA.trans (v12.mono hbA.size)
          clear hP1 hP2 v1 v2 v12 hO hE hbA hO2 hval2
          have hl4 := hS2.vok.len
          generalize hNe : doN ⟨wnK (Sf k), wnO (Sf k), wnN (Sf k)⟩ val = N at NN ⊢
          clear hNe
          go_upto_region 28 with fail
          clear z0 z1 z2
          rcases NN with rfl | rfl
          · rw [show errV 0 = .nilIface from rfl]
            have E1 := neq00
            go_wp2_with fail
            refine (tsaw_any _ _ _ _ val2 _ (hE2'.wat k hk) hO2'.is (by omega)).mono ?_
            rintro e V3 ⟨rfl, hV, F⟩
            have hE3' := hE2'.frm hk F hV
            have hO3' := hO2'.frm F (hE2'.wat k hk).noI
            have hb3' := hb2'.trans ((hE2'.wat k hk).below F)
            clear F hV hE2' hO2' hb2' E1
            as_aux_lemma =>
              go_wp2_with fail
              refine (ttake_any _ val2 _ hO3'.is).mono ?_
              rintro e X1 ⟨rfl, x1⟩
              obtain ⟨B, hBe, hL, hwL⟩ := blk1 X1 (leC zL) 29
              obtain ⟨x, hx⟩ : ∃ x, tkL (val2) = x := ⟨_, rfl⟩
              rw [hx]
              cases hl : isL (val2)
              · have hv0 : val2 = [] := by
                  rcases hS2 with ⟨h, -⟩ | ⟨h, -⟩
                  · exact h
                  · rw [hl] at h; cases h
                have hP := (hI.one (k := k) hS2 ((hI.wo k hk).saw hS2))
                rw [nowL_no hl] at hP
                have n0 : (((val2).length : Int) != 0) = false := by rw [hv0]; rfl
                have HV : Hid (val2 = []) := hv0
                clear hv0
                go_upto_region 33 with (refine st_le rfl rfl (k1 := x) hL rfl rfl ?_; intro X2 hL2 C2)
                have x2 : Below (V3).heap.size V3 X2 := ab_trans x1 (ab_chg hwL C2 (Nat.le_refl _))
                have hE2 := (hE3').keep x2
                have hO2 := (hO3').keep x2
                have hb2 := (hb3').trans (x2.mono (hb3').size)
                clear hBe hL hwL C2 hL2 x1 x2
                go_wp2_with fail
                exact ⟨⟨j + 1, bs, (upd Sf k (sawW (Sf k) val2)), lv, la, val2, q2, c2, by omega, rfl, (by first | rfl | (rw [HV.out]; rfl)), hE2, hO2, hP, hb2⟩, by simp only [intOf]; omega⟩
              · have hP := (hI.one (k := k) hS2 ((hI.wo k hk).saw hS2))
                rw [nowL_yes hl, hx] at hP
                have hQ : (x.e = la.e ∧ x.h = la.h ∧ x.l = la.l ∧ la.b ≤ x.b ∧ x.b ≤ la.b + 1) ∨ (x.e = la.e + 1 ∧ x.b = 0) := by
                  rcases hS2 with ⟨h, -⟩ | ⟨-, h⟩
                  · rw [h] at hl; cases hl
                  · rw [hx] at h; exact h
                go_upto_region 33 with (refine st_le rfl rfl (k1 := x) hL rfl rfl ?_; intro X2 hL2 C2)
                have x2 : Below (V3).heap.size V3 X2 := ab_trans x1 (ab_chg hwL C2 (Nat.le_refl _))
                have hE2 := (hE3').keep x2
                have hO2 := (hO3').keep x2
                have hb2 := (hb3').trans (x2.mono (hb3').size)
                clear hBe hL hwL C2 hl hx
                have l0 : X2.cell? ⟨X1.heap.size, 0, none⟩ = some (.int .i64 x.e) := hL2.at rfl
                have l1 : X2.cell? ⟨X1.heap.size, 1, none⟩ = some (.int .i64 x.h) := hL2.at rfl
                have l2 : X2.cell? ⟨X1.heap.size, 2, none⟩ = some (.int .i64 x.l) := hL2.at rfl
                have l3 : X2.cell? ⟨X1.heap.size, 3, none⟩ = some (.int .i64 x.b) := hL2.at rfl
                have m0 : X2.cell? ⟨g9, 0, none⟩ = some (.int .i64 la.e) := hE2.las.at rfl
                have m1 : X2.cell? ⟨g9, 1, none⟩ = some (.int .i64 la.h) := hE2.las.at rfl
                have m2 : X2.cell? ⟨g9, 2, none⟩ = some (.int .i64 la.l) := hE2.las.at rfl
                have m3 : X2.cell? ⟨g9, 3, none⟩ = some (.int .i64 la.b) := hE2.las.at rfl
                have hne : X1.heap.size ≠ g9 := by have := (hE3').las.lt; have := x1.size; omega
                go_upto_region 36 with fail
                clear x1 x2
                rcases hQ with ⟨q1, q2, q3, q4, q5⟩ | ⟨q1, q2⟩
                · have r1 : (x.e == la.e) = true := by simp [q1]
                  have r2 : (x.h == la.h) = true := by simp [q2]
                  have r3 : (x.l == la.l) = true := by simp [q3]
                  have r4 : (x.e == la.e + 1) = false := by rw [beq_eq_false_iff_ne]; omega
                  clear q1 q2 q3
                  go_upto_region 40 with fail
                  clear l0 l1 l2 l3 m0 m1 m2 m3 r1 r2 r3 r4 q4 q5
                  go_upto_region 41 with (first
                    | (refine ld_blk rfl rfl hL2 rfl _ Try.underlying29 rfl (info_le x) ?_)
                    | (refine st_le rfl rfl (k1 := x) hE2.las rfl rfl ?_; intro X3 hB9 C9))
                  have hE3 := hE2.last hB9 C9
                  have hO3 := own_chgT hO2 C9 (fun e => absurd (hE2.las.kindR.uniq (own_kindR hO2 e)) (by decide))
                  have hb3 := ab_chg hb2 C9 hE2.ge.2.2
                  have hL3 := hL2.chg C9 hne
                  clear hL2 C9 hB9 hE2 hO2 hb2
                  go_wp2_with (refine ld_blk rfl rfl hE3.arr rfl _ Try.underlying39 rfl (info_ar _) ?_)
                  go_loopw [174] (fun i wr => ∃ r : Nat, r ≤ 3 ∧ i = .int .i64 (r : Int) ∧ Below X3.heap.size X3 wr) (fun i _ => 3 - (intOf i).toNat)
                  case atStart => exact ⟨0, by omega, rfl, Below.refl _ _⟩
                  case round =>
                    obtain ⟨r, hr, rfl, hbr⟩ := hrel
                    by_cases cr : r = 3
                    · subst cr
                      have hE4 := hE3.keep hbr
                      have hO4 := Io.keep hO3 hbr
                      have hb4 := ab_trans hb3 hbr
                      clear hE3 hO3 hb3 hL3 hbr
                      go_wp2_with fail
                      exact ⟨⟨j + 1, bs, (upd Sf k (sawW (Sf k) val2)), lv, x, val2, q2, c2, by omega, rfl, rfl, hE4, hO4, hP, hb4⟩, by simp only [intOf]; omega⟩
                    · have hr3 : r < 3 := by omega
                      have hri : (r : Int) < 3 := by omega
                      have hix := ix3 (bs) hr3
                      have hWr := (hE3.wat r hr3).keep hbr
                      go_wp2_with fail
                      refine (tleads_any _ _ _ _ hWr).mono ?_
                      rintro e Y1 ⟨rfl, y1⟩
                      have hby := ab_trans hbr y1
                      have l0 : Y1.cell? ⟨X1.heap.size, 0, none⟩ = some (.int .i64 x.e) := (hL3.keep hby).at rfl
                      clear hix hWr
                      cases hld : ldB ((upd Sf k (sawW (Sf k) val2)) r)
                      · go_wp2_with fail
                        exact ⟨⟨r + 1, by omega, rfl, hby⟩, by simp only [intOf]; omega⟩
                      · have hle := led hP hr3 hld
                        have hle2 : ¬ x.e < ldN ((upd Sf k (sawW (Sf k) val2)) r) := by omega
                        clear hld hle
                        go_wp2_with fail
                        exact ⟨⟨r + 1, by omega, rfl, hby⟩, by simp only [intOf]; omega⟩
                · have r1 : (x.e == la.e) = false := by rw [beq_eq_false_iff_ne]; omega
                  have r2 : (x.e == la.e + 1) = true := by simp [q1]
                  have r3 : (x.b == 0) = true := by simp [q2]
                  clear q1 q2
                  go_upto_region 40 with fail
                  clear l0 l1 l2 l3 m0 m1 m2 m3 r1 r2 r3
                  go_upto_region 41 with (first
                    | (refine ld_blk rfl rfl hL2 rfl _ Try.underlying29 rfl (info_le x) ?_)
                    | (refine st_le rfl rfl (k1 := x) hE2.las rfl rfl ?_; intro X3 hB9 C9))
                  have hE3 := hE2.last hB9 C9
                  have hO3 := own_chgT hO2 C9 (fun e => absurd (hE2.las.kindR.uniq (own_kindR hO2 e)) (by decide))
                  have hb3 := ab_chg hb2 C9 hE2.ge.2.2
                  have hL3 := hL2.chg C9 hne
                  clear hL2 C9 hB9 hE2 hO2 hb2
                  go_wp2_with (refine ld_blk rfl rfl hE3.arr rfl _ Try.underlying39 rfl (info_ar _) ?_)
                  go_loopw [174] (fun i wr => ∃ r : Nat, r ≤ 3 ∧ i = .int .i64 (r : Int) ∧ Below X3.heap.size X3 wr) (fun i _ => 3 - (intOf i).toNat)
                  case atStart => exact ⟨0, by omega, rfl, Below.refl _ _⟩
                  case round =>
                    obtain ⟨r, hr, rfl, hbr⟩ := hrel
                    by_cases cr : r = 3
                    · subst cr
                      have hE4 := hE3.keep hbr
                      have hO4 := Io.keep hO3 hbr
                      have hb4 := ab_trans hb3 hbr
                      clear hE3 hO3 hb3 hL3 hbr
                      go_wp2_with fail
                      exact ⟨⟨j + 1, bs, (upd Sf k (sawW (Sf k) val2)), lv, x, val2, q2, c2, by omega, rfl, rfl, hE4, hO4, hP, hb4⟩, by simp only [intOf]; omega⟩
                    · have hr3 : r < 3 := by omega
                      have hri : (r : Int) < 3 := by omega
                      have hix := ix3 (bs) hr3
                      have hWr := (hE3.wat r hr3).keep hbr
                      go_wp2_with fail
                      refine (tleads_any _ _ _ _ hWr).mono ?_
                      rintro e Y1 ⟨rfl, y1⟩
                      have hby := ab_trans hbr y1
                      have l0 : Y1.cell? ⟨X1.heap.size, 0, none⟩ = some (.int .i64 x.e) := (hL3.keep hby).at rfl
                      clear hix hWr
                      cases hld : ldB ((upd Sf k (sawW (Sf k) val2)) r)
                      · go_wp2_with fail
                        exact ⟨⟨r + 1, by omega, rfl, hby⟩, by simp only [intOf]; omega⟩
                      · have hle := led hP hr3 hld
                        have hle2 : ¬ x.e < ldN ((upd Sf k (sawW (Sf k) val2)) r) := by omega
                        clear hld hle
                        go_wp2_with fail
                        exact ⟨⟨r + 1, by omega, rfl, hby⟩, by simp only [intOf]; omega⟩
          · rw [show errV 11 = Err 11 from rfl]
            have E1 := neB0
            have E2 := neBB
            go_wp2_with fail
            refine (tsaw_any _ _ _ _ val2 _ (hE2'.wat k hk) hO2'.is (by omega)).mono ?_
            rintro e V3 ⟨rfl, hV, F⟩
            have hE3' := hE2'.frm hk F hV
            have hO3' := hO2'.frm F (hE2'.wat k hk).noI
            have hb3' := hb2'.trans ((hE2'.wat k hk).below F)
            clear F hV hE2' hO2' hb2' E1 E2
            as_aux_lemma =>
              go_wp2_with fail
              refine (ttake_any _ val2 _ hO3'.is).mono ?_
              rintro e X1 ⟨rfl, x1⟩
              obtain ⟨B, hBe, hL, hwL⟩ := blk1 X1 (leC zL) 29
              obtain ⟨x, hx⟩ : ∃ x, tkL (val2) = x := ⟨_, rfl⟩
              rw [hx]
              cases hl : isL (val2)
              · have hv0 : val2 = [] := by
                  rcases hS2 with ⟨h, -⟩ | ⟨h, -⟩
                  · exact h
                  · rw [hl] at h; cases h
                have hP := (hI.one (k := k) hS2 ((hI.wo k hk).saw hS2))
                rw [nowL_no hl] at hP
                have n0 : (((val2).length : Int) != 0) = false := by rw [hv0]; rfl
                have HV : Hid (val2 = []) := hv0
                clear hv0
                go_upto_region 33 with (refine st_le rfl rfl (k1 := x) hL rfl rfl ?_; intro X2 hL2 C2)
                have x2 : Below (V3).heap.size V3 X2 := ab_trans x1 (ab_chg hwL C2 (Nat.le_refl _))
                have hE2 := (hE3').keep x2
                have hO2 := (hO3').keep x2
                have hb2 := (hb3').trans (x2.mono (hb3').size)
                clear hBe hL hwL C2 hL2 x1 x2
                go_wp2_with fail
                exact ⟨⟨j + 1, bs, (upd Sf k (sawW (Sf k) val2)), lv, la, val2, q2, c2, by omega, rfl, (by first | rfl | (rw [HV.out]; rfl)), hE2, hO2, hP, hb2⟩, by simp only [intOf]; omega⟩
              · have hP := (hI.one (k := k) hS2 ((hI.wo k hk).saw hS2))
                rw [nowL_yes hl, hx] at hP
                have hQ : (x.e = la.e ∧ x.h = la.h ∧ x.l = la.l ∧ la.b ≤ x.b ∧ x.b ≤ la.b + 1) ∨ (x.e = la.e + 1 ∧ x.b = 0) := by
                  rcases hS2 with ⟨h, -⟩ | ⟨-, h⟩
                  · rw [h] at hl; cases hl
                  · rw [hx] at h; exact h
                go_upto_region 33 with (refine st_le rfl rfl (k1 := x) hL rfl rfl ?_; intro X2 hL2 C2)
                have x2 : Below (V3).heap.size V3 X2 := ab_trans x1 (ab_chg hwL C2 (Nat.le_refl _))
                have hE2 := (hE3').keep x2
                have hO2 := (hO3').keep x2
                have hb2 := (hb3').trans (x2.mono (hb3').size)
                clear hBe hL hwL C2 hl hx
                have l0 : X2.cell? ⟨X1.heap.size, 0, none⟩ = some (.int .i64 x.e) := hL2.at rfl
                have l1 : X2.cell? ⟨X1.heap.size, 1, none⟩ = some (.int .i64 x.h) := hL2.at rfl
                have l2 : X2.cell? ⟨X1.heap.size, 2, none⟩ = some (.int .i64 x.l) := hL2.at rfl
                have l3 : X2.cell? ⟨X1.heap.size, 3, none⟩ = some (.int .i64 x.b) := hL2.at rfl
                have m0 : X2.cell? ⟨g9, 0, none⟩ = some (.int .i64 la.e) := hE2.las.at rfl
                have m1 : X2.cell? ⟨g9, 1, none⟩ = some (.int .i64 la.h) := hE2.las.at rfl
                have m2 : X2.cell? ⟨g9, 2, none⟩ = some (.int .i64 la.l) := hE2.las.at rfl
                have m3 : X2.cell? ⟨g9, 3, none⟩ = some (.int .i64 la.b) := hE2.las.at rfl
                have hne : X1.heap.size ≠ g9 := by have := (hE3').las.lt; have := x1.size; omega
                go_upto_region 36 with fail
                clear x1 x2
                rcases hQ with ⟨q1, q2, q3, q4, q5⟩ | ⟨q1, q2⟩
                · have r1 : (x.e == la.e) = true := by simp [q1]
                  have r2 : (x.h == la.h) = true := by simp [q2]
                  have r3 : (x.l == la.l) = true := by simp [q3]
                  have r4 : (x.e == la.e + 1) = false := by rw [beq_eq_false_iff_ne]; omega
                  clear q1 q2 q3
                  go_upto_region 40 with fail
                  clear l0 l1 l2 l3 m0 m1 m2 m3 r1 r2 r3 r4 q4 q5
                  go_upto_region 41 with (first
                    | (refine ld_blk rfl rfl hL2 rfl _ Try.underlying29 rfl (info_le x) ?_)
                    | (refine st_le rfl rfl (k1 := x) hE2.las rfl rfl ?_; intro X3 hB9 C9))
                  have hE3 := hE2.last hB9 C9
                  have hO3 := own_chgT hO2 C9 (fun e => absurd (hE2.las.kindR.uniq (own_kindR hO2 e)) (by decide))
                  have hb3 := ab_chg hb2 C9 hE2.ge.2.2
                  have hL3 := hL2.chg C9 hne
                  clear hL2 C9 hB9 hE2 hO2 hb2
                  go_wp2_with (refine ld_blk rfl rfl hE3.arr rfl _ Try.underlying39 rfl (info_ar _) ?_)
                  go_loopw [174] (fun i wr => ∃ r : Nat, r ≤ 3 ∧ i = .int .i64 (r : Int) ∧ Below X3.heap.size X3 wr) (fun i _ => 3 - (intOf i).toNat)
                  case atStart => exact ⟨0, by omega, rfl, Below.refl _ _⟩
                  case round =>
                    obtain ⟨r, hr, rfl, hbr⟩ := hrel
                    by_cases cr : r = 3
                    · subst cr
                      have hE4 := hE3.keep hbr
                      have hO4 := Io.keep hO3 hbr
                      have hb4 := ab_trans hb3 hbr
                      clear hE3 hO3 hb3 hL3 hbr
                      go_wp2_with fail
                      exact ⟨⟨j + 1, bs, (upd Sf k (sawW (Sf k) val2)), lv, x, val2, q2, c2, by omega, rfl, rfl, hE4, hO4, hP, hb4⟩, by simp only [intOf]; omega⟩
                    · have hr3 : r < 3 := by omega
                      have hri : (r : Int) < 3 := by omega
                      have hix := ix3 (bs) hr3
                      have hWr := (hE3.wat r hr3).keep hbr
                      go_wp2_with fail
                      refine (tleads_any _ _ _ _ hWr).mono ?_
                      rintro e Y1 ⟨rfl, y1⟩
                      have hby := ab_trans hbr y1
                      have l0 : Y1.cell? ⟨X1.heap.size, 0, none⟩ = some (.int .i64 x.e) := (hL3.keep hby).at rfl
                      clear hix hWr
                      cases hld : ldB ((upd Sf k (sawW (Sf k) val2)) r)
                      · go_wp2_with fail
                        exact ⟨⟨r + 1, by omega, rfl, hby⟩, by simp only [intOf]; omega⟩
                      · have hle := led hP hr3 hld
                        have hle2 : ¬ x.e < ldN ((upd Sf k (sawW (Sf k) val2)) r) := by omega
                        clear hld hle
                        go_wp2_with fail
                        exact ⟨⟨r + 1, by omega, rfl, hby⟩, by simp only [intOf]; omega⟩
                · have r1 : (x.e == la.e) = false := by rw [beq_eq_false_iff_ne]; omega
                  have r2 : (x.e == la.e + 1) = true := by simp [q1]
                  have r3 : (x.b == 0) = true := by simp [q2]
                  clear q1 q2
                  go_upto_region 40 with fail
                  clear l0 l1 l2 l3 m0 m1 m2 m3 r1 r2 r3
                  go_upto_region 41 with (first
                    | (refine ld_blk rfl rfl hL2 rfl _ Try.underlying29 rfl (info_le x) ?_)
                    | (refine st_le rfl rfl (k1 := x) hE2.las rfl rfl ?_; intro X3 hB9 C9))
                  have hE3 := hE2.last hB9 C9
                  have hO3 := own_chgT hO2 C9 (fun e => absurd (hE2.las.kindR.uniq (own_kindR hO2 e)) (by decide))
                  have hb3 := ab_chg hb2 C9 hE2.ge.2.2
                  have hL3 := hL2.chg C9 hne
                  clear hL2 C9 hB9 hE2 hO2 hb2
                  go_wp2_with (refine ld_blk rfl rfl hE3.arr rfl _ Try.underlying39 rfl (info_ar _) ?_)
                  go_loopw [174] (fun i wr => ∃ r : Nat, r ≤ 3 ∧ i = .int .i64 (r : Int) ∧ Below X3.heap.size X3 wr) (fun i _ => 3 - (intOf i).toNat)
                  case atStart => exact ⟨0, by omega, rfl, Below.refl _ _⟩
                  case round =>
                    obtain ⟨r, hr, rfl, hbr⟩ := hrel
                    by_cases cr : r = 3
                    · subst cr
                      have hE4 := hE3.keep hbr
                      have hO4 := Io.keep hO3 hbr
                      have hb4 := ab_trans hb3 hbr
                      clear hE3 hO3 hb3 hL3 hbr
                      go_wp2_with fail
                      exact ⟨⟨j + 1, bs, (upd Sf k (sawW (Sf k) val2)), lv, x, val2, q2, c2, by omega, rfl, rfl, hE4, hO4, hP, hb4⟩, by simp only [intOf]; omega⟩
                    · have hr3 : r < 3 := by omega
                      have hri : (r : Int) < 3 := by omega
                      have hix := ix3 (bs) hr3
                      have hWr := (hE3.wat r hr3).keep hbr
                      go_wp2_with fail
                      refine (tleads_any _ _ _ _ hWr).mono ?_
                      rintro e Y1 ⟨rfl, y1⟩
                      have hby := ab_trans hbr y1
                      have l0 : Y1.cell? ⟨X1.heap.size, 0, none⟩ = some (.int .i64 x.e) := (hL3.keep hby).at rfl
                      clear hix hWr
                      cases hld : ldB ((upd Sf k (sawW (Sf k) val2)) r)
                      · go_wp2_with fail
                        exact ⟨⟨r + 1, by omega, rfl, hby⟩, by simp only [intOf]; omega⟩
                      · have hle := led hP hr3 hld
                        have hle2 : ¬ x.e < ldN ((upd Sf k (sawW (Sf k) val2)) r) := by omega
                        clear hld hle
                        go_wp2_with fail
                        exact ⟨⟨r + 1, by omega, rfl, hby⟩, by simp only [intOf]; omega⟩
        have z2 : (kd == 2) = false := by simp [k2]
        clear k0 k1' k2
        have PL := hI.live (k := k) (t := (t : Int)) hk
        have hlk := hI.li k hk
        have y6 : A.cell? ⟨W1.heap.size + 1, k, none⟩ = some (.int .i64 (lv k)) := hE.liv.at (lvC_at lv hk)
        have f6 := hE.liv.frozen k
        have hg6 := hE.liv.lt
        obtain ⟨lk, hle⟩ : ∃ x, lv k = x := ⟨_, rfl⟩
        rw [hle] at y6 hlk PL
        clear hle
        go_upto_region 21 with fail
        clear y6 f6
        have hE1 := hE.life hk (lk + 1)
        have hC1 := chg_set A (W1.heap.size + 1) k (.int .i64 (lk + 1))
        have hO1 : Io _ W1.heap.size (.slice q8 val.length c8) val := own_chgT hO hC1 (fun e => absurd (hE.liv.kindR.uniq (own_kindR hO e)) (by decide))
        generalize A.setCell ⟨W1.heap.size + 1, k, none⟩ (.int .i64 (lk + 1)) = V0 at hE1 hC1 hO1 ⊢
        have hb1 := hbA.trans (hC1.below (Nat.le_succ _))
        have y6 : V0.cell? ⟨W1.heap.size + 1, k, none⟩ = some (.int .i64 (lk + 1)) := by have h9 := hE1.liv.at (lvC_at _ hk); rw [upd_at] at h9; exact h9
        clear hC1 hE hO hbA hg6
        go_wp2_with fail
        refine (tnew_ok (k : Int) (lk + 1) (t : Int) _ (by omega)).mono ?_
        rintro e V1 ⟨b, rfl, hV1, v1⟩
        have hE2 := hE1.keep v1
        have hO2 := Io.keep hO1 v1
        have y5 : V1.cell? ⟨W1.heap.size, k, none⟩ = some (wptr (bs k)) := hE2.arr.at (arC_at bs hk)
        have f5 := hE2.arr.frozen k
        have hlt5 := hE2.arr.lt
        go_upto_region 32 with fail
        have hE3' := hE2.put hk (hV1.less hE1.le) (fun i hi => by have h8 := (hE1.wat i hi).lt; have h9 := hV1.ge; omega)
        have hC2 := chg_set V1 W1.heap.size k (wptr b)
        have hO3' : Io _ W1.heap.size (.slice q8 val.length c8) val := own_chgT hO2 hC2 (fun e => absurd (hE2.arr.kindR.uniq (own_kindR hO2 e)) (by decide))
        have hb3' := (hb1.trans (v1.mono hE1.le)).trans (hC2.below (Nat.le_refl _))
        generalize V1.setCell ⟨W1.heap.size, k, none⟩ (wptr b) = V2 at hE3' hO3' hb3' ⊢
        clear hC2 hE2 hO2 y5 f5 hlt5 hV1 v1 y6 hE1 hO1 hb1 z0 z1 z2 hlk
        as_aux_lemma =>
          go_wp2_with fail
          refine (ttake_any _ val _ hO3'.is).mono ?_
          rintro e X1 ⟨rfl, x1⟩
          obtain ⟨B, hBe, hL, hwL⟩ := blk1 X1 (leC zL) 29
          obtain ⟨x, hx⟩ : ∃ x, tkL (val) = x := ⟨_, rfl⟩
          rw [hx]
          cases hl : isL (val)
          · have hv0 : val = [] := by
              rcases hIS with ⟨h, -⟩ | ⟨h, -⟩
              · exact h
              · rw [hl] at h; cases h
            have hP := PL
            rw [nowL_no hl] at hP
            have n0 : (((val).length : Int) != 0) = false := by rw [hv0]; rfl
            have HV : Hid (val = []) := hv0
            clear hv0
            go_upto_region 33 with (refine st_le rfl rfl (k1 := x) hL rfl rfl ?_; intro X2 hL2 C2)
            have x2 : Below (V2).heap.size V2 X2 := ab_trans x1 (ab_chg hwL C2 (Nat.le_refl _))
            have hE2 := (hE3').keep x2
            have hO2 := (hO3').keep x2
            have hb2 := (hb3').trans (x2.mono (hb3').size)
            clear hBe hL hwL C2 hL2 x1 x2
            go_wp2_with fail
            exact ⟨⟨j + 1, (upd bs k b), (upd Sf k (newW (k : Int) (lk + 1) (t : Int))), (upd lv k (lk + 1)), la, val, q8, c8, by omega, rfl, (by first | rfl | (rw [HV.out]; rfl)), hE2, hO2, hP, hb2⟩, by simp only [intOf]; omega⟩
          · have hP := PL
            rw [nowL_yes hl, hx] at hP
            have hQ : (x.e = la.e ∧ x.h = la.h ∧ x.l = la.l ∧ la.b ≤ x.b ∧ x.b ≤ la.b + 1) ∨ (x.e = la.e + 1 ∧ x.b = 0) := by
              rcases hIS with ⟨h, -⟩ | ⟨-, h⟩
              · rw [h] at hl; cases hl
              · rw [hx] at h; exact h
            go_upto_region 33 with (refine st_le rfl rfl (k1 := x) hL rfl rfl ?_; intro X2 hL2 C2)
            have x2 : Below (V2).heap.size V2 X2 := ab_trans x1 (ab_chg hwL C2 (Nat.le_refl _))
            have hE2 := (hE3').keep x2
            have hO2 := (hO3').keep x2
            have hb2 := (hb3').trans (x2.mono (hb3').size)
            clear hBe hL hwL C2 hl hx
            have l0 : X2.cell? ⟨X1.heap.size, 0, none⟩ = some (.int .i64 x.e) := hL2.at rfl
            have l1 : X2.cell? ⟨X1.heap.size, 1, none⟩ = some (.int .i64 x.h) := hL2.at rfl
            have l2 : X2.cell? ⟨X1.heap.size, 2, none⟩ = some (.int .i64 x.l) := hL2.at rfl
            have l3 : X2.cell? ⟨X1.heap.size, 3, none⟩ = some (.int .i64 x.b) := hL2.at rfl
            have m0 : X2.cell? ⟨g9, 0, none⟩ = some (.int .i64 la.e) := hE2.las.at rfl
            have m1 : X2.cell? ⟨g9, 1, none⟩ = some (.int .i64 la.h) := hE2.las.at rfl
            have m2 : X2.cell? ⟨g9, 2, none⟩ = some (.int .i64 la.l) := hE2.las.at rfl
            have m3 : X2.cell? ⟨g9, 3, none⟩ = some (.int .i64 la.b) := hE2.las.at rfl
            have hne : X1.heap.size ≠ g9 := by have := (hE3').las.lt; have := x1.size; omega
            go_upto_region 36 with fail
            clear x1 x2
            rcases hQ with ⟨q1, q2, q3, q4, q5⟩ | ⟨q1, q2⟩
            · have r1 : (x.e == la.e) = true := by simp [q1]
              have r2 : (x.h == la.h) = true := by simp [q2]
              have r3 : (x.l == la.l) = true := by simp [q3]
              have r4 : (x.e == la.e + 1) = false := by rw [beq_eq_false_iff_ne]; omega
              clear q1 q2 q3
              go_upto_region 40 with fail
              clear l0 l1 l2 l3 m0 m1 m2 m3 r1 r2 r3 r4 q4 q5
              go_upto_region 41 with (first
                | (refine ld_blk rfl rfl hL2 rfl _ Try.underlying29 rfl (info_le x) ?_)
                | (refine st_le rfl rfl (k1 := x) hE2.las rfl rfl ?_; intro X3 hB9 C9))
              have hE3 := hE2.last hB9 C9
              have hO3 := own_chgT hO2 C9 (fun e => absurd (hE2.las.kindR.uniq (own_kindR hO2 e)) (by decide))
              have hb3 := ab_chg hb2 C9 hE2.ge.2.2
              have hL3 := hL2.chg C9 hne
              clear hL2 C9 hB9 hE2 hO2 hb2
              go_wp2_with (refine ld_blk rfl rfl hE3.arr rfl _ Try.underlying39 rfl (info_ar _) ?_)
              go_loopw [174] (fun i wr => ∃ r : Nat, r ≤ 3 ∧ i = .int .i64 (r : Int) ∧ Below X3.heap.size X3 wr) (fun i _ => 3 - (intOf i).toNat)
              case atStart => exact ⟨0, by omega, rfl, Below.refl _ _⟩
              case round =>
                obtain ⟨r, hr, rfl, hbr⟩ := hrel
                by_cases cr : r = 3
                · subst cr
                  have hE4 := hE3.keep hbr
                  have hO4 := Io.keep hO3 hbr
                  have hb4 := ab_trans hb3 hbr
                  clear hE3 hO3 hb3 hL3 hbr
                  go_wp2_with fail
                  exact ⟨⟨j + 1, (upd bs k b), (upd Sf k (newW (k : Int) (lk + 1) (t : Int))), (upd lv k (lk + 1)), x, val, q8, c8, by omega, rfl, rfl, hE4, hO4, hP, hb4⟩, by simp only [intOf]; omega⟩
                · have hr3 : r < 3 := by omega
                  have hri : (r : Int) < 3 := by omega
                  have hix := ix3 ((upd bs k b)) hr3
                  have hWr := (hE3.wat r hr3).keep hbr
                  go_wp2_with fail
                  refine (tleads_any _ _ _ _ hWr).mono ?_
                  rintro e Y1 ⟨rfl, y1⟩
                  have hby := ab_trans hbr y1
                  have l0 : Y1.cell? ⟨X1.heap.size, 0, none⟩ = some (.int .i64 x.e) := (hL3.keep hby).at rfl
                  clear hix hWr
                  cases hld : ldB ((upd Sf k (newW (k : Int) (lk + 1) (t : Int))) r)
                  · go_wp2_with fail
                    exact ⟨⟨r + 1, by omega, rfl, hby⟩, by simp only [intOf]; omega⟩
                  · have hle := led hP hr3 hld
                    have hle2 : ¬ x.e < ldN ((upd Sf k (newW (k : Int) (lk + 1) (t : Int))) r) := by omega
                    clear hld hle
                    go_wp2_with fail
                    exact ⟨⟨r + 1, by omega, rfl, hby⟩, by simp only [intOf]; omega⟩
            · have r1 : (x.e == la.e) = false := by rw [beq_eq_false_iff_ne]; omega
              have r2 : (x.e == la.e + 1) = true := by simp [q1]
              have r3 : (x.b == 0) = true := by simp [q2]
              clear q1 q2
              go_upto_region 40 with fail
              clear l0 l1 l2 l3 m0 m1 m2 m3 r1 r2 r3
              go_upto_region 41 with (first
                | (refine ld_blk rfl rfl hL2 rfl _ Try.underlying29 rfl (info_le x) ?_)
                | (refine st_le rfl rfl (k1 := x) hE2.las rfl rfl ?_; intro X3 hB9 C9))
              have hE3 := hE2.last hB9 C9
              have hO3 := own_chgT hO2 C9 (fun e => absurd (hE2.las.kindR.uniq (own_kindR hO2 e)) (by decide))
              have hb3 := ab_chg hb2 C9 hE2.ge.2.2
              have hL3 := hL2.chg C9 hne
              clear hL2 C9 hB9 hE2 hO2 hb2
              go_wp2_with (refine ld_blk rfl rfl hE3.arr rfl _ Try.underlying39 rfl (info_ar _) ?_)
              go_loopw [174] (fun i wr => ∃ r : Nat, r ≤ 3 ∧ i = .int .i64 (r : Int) ∧ Below X3.heap.size X3 wr) (fun i _ => 3 - (intOf i).toNat)
              case atStart => exact ⟨0, by omega, rfl, Below.refl _ _⟩
              case round =>
                obtain ⟨r, hr, rfl, hbr⟩ := hrel
                by_cases cr : r = 3
                · subst cr
                  have hE4 := hE3.keep hbr
                  have hO4 := Io.keep hO3 hbr
                  have hb4 := ab_trans hb3 hbr
                  clear hE3 hO3 hb3 hL3 hbr
                  go_wp2_with fail
                  exact ⟨⟨j + 1, (upd bs k b), (upd Sf k (newW (k : Int) (lk + 1) (t : Int))), (upd lv k (lk + 1)), x, val, q8, c8, by omega, rfl, rfl, hE4, hO4, hP, hb4⟩, by simp only [intOf]; omega⟩
                · have hr3 : r < 3 := by omega
                  have hri : (r : Int) < 3 := by omega
                  have hix := ix3 ((upd bs k b)) hr3
                  have hWr := (hE3.wat r hr3).keep hbr
                  go_wp2_with fail
                  refine (tleads_any _ _ _ _ hWr).mono ?_
                  rintro e Y1 ⟨rfl, y1⟩
                  have hby := ab_trans hbr y1
                  have l0 : Y1.cell? ⟨X1.heap.size, 0, none⟩ = some (.int .i64 x.e) := (hL3.keep hby).at rfl
                  clear hix hWr
                  cases hld : ldB ((upd Sf k (newW (k : Int) (lk + 1) (t : Int))) r)
                  · go_wp2_with fail
                    exact ⟨⟨r + 1, by omega, rfl, hby⟩, by simp only [intOf]; omega⟩
                  · have hle := led hP hr3 hld
                    have hle2 : ¬ x.e < ldN ((upd Sf k (newW (k : Int) (lk + 1) (t : Int))) r) := by omega
                    clear hld hle
                    go_wp2_with fail
                    exact ⟨⟨r + 1, by omega, rfl, hby⟩, by simp only [intOf]; omega⟩
theorem walk (ti : Int) (hti : I64 ti) {W : World} (q : Option Addr) (g off m cap : Nat) (l : List (Nat → Int)) (hlen : l.length = m) (hcap : m ≤ cap) (hp : 0 < m → q = some ⟨g, off, none⟩) (hg : ∀ _ : 0 < m, g < W.heap.size)
    (hc : ∀ j c, l[j]? = some c → ∀ i, i < 2 → W.cell? ⟨g, off + j * 2 + i, none⟩ = some (.int .i64 (c i)) ∧ (Lit.int .i64 (c i)).wf = true) :
    Calls Try.prog 5 #[.int .i64 ti, .slice q m cap] W fun e w' => e = .returned (.bool true) ∧ Below W.heap.size W w' :=
  epochs_walk ti q g off m cap l W hlen hcap hp hg (fun j c h i hi => (hc j c h i hi).1)
theorem own : ownKnob Try.prog.godebug = none := by kernel_rfl
theorem laidOut : laidOutB Try.prog = true := by kernel_rfl

set_option maxRecDepth 100000 in
theorem lifted (os : Os) (started : os.Started) (H : Type) (enc : TypeId × Value → H) :
    ReturnsInHanded {} Try.checked os 5 .any (Rows.tenureEpochsSpec.pre6 enc Try.prog Try.f5 Rows.tenureEpochsRow.domain false) (Rows.tenureEpochsSpec.post enc Try.prog Try.f5 false true false false) := by
  refine returnsInHanded_of_change (C := Try.checked) own started (by kernel_rfl) Try.func5
    (ChangeSpec.witness6 (enc := enc) (C := Try.checked) false ⟨#[], #[.int .i64 0, .slice none 0 0], []⟩ 8 (by kernel_rfl) (by kernel_rfl) (by kernel_rfl) (by kernel_rfl)) ?_
  intro W base args ds gs before hval0 hW hcnd _
  have hval : ∀ (j : Nat) t v, Try.f5.params[j]? = some t → args[j]? = some v → Value.okWide Try.prog W .any base t v := hval0
  have hW' := hW
  obtain ⟨p, q, hA0, hV, rfl, hfz, hnd⟩ := hW
  have hA : DataW.TrodAll enc Try.prog W 0 (fun _ => true) true Try.f5.params.toList args.toList ds p := hA0
  rw [Try.params5] at hA hval
  obtain ⟨v0, vs0, d0, ds0, p0, q0, hargs, rfl, rfl, h0, r0⟩ := trodAll_cons hA
  obtain ⟨v1, vs1, d1, ds1, p1, q1, rfl, rfl, rfl, h1, r1⟩ := trodAll_cons r0
  obtain ⟨rfl, rfl, rfl⟩ := trodAll_nil r1
  obtain rfl : args = #[v0, v1] := by cases args; simp_all
  obtain ⟨rfl, rfl⟩ := trodVars_none hV
  have k0 := h0
  have lt0 : ∀ x ∈ p0, x.block < W.heap.size := by obtain ⟨m, hm⟩ := k0; exact DataW.trod_lt m _ _ _ hm
  have k1 := h1
  have lt1 : ∀ x ∈ p1, x.block < W.heap.size := by obtain ⟨m, hm⟩ := k1; exact DataW.trod_lt m _ _ _ hm
  obtain ⟨a0, rfl, rfl, rfl, w0⟩ := open_int Try.underlying3 (hval 0 3 v0 rfl rfl) h0
  obtain ⟨sq1, sg1, so1, sn1, sk1, sl1, rfl, hl1, hk1, hm1, hp1, hg1, hc1⟩ := open_rows (n := 2) (D := 8) (fun _ => .i64) Try.underlying36 (by kernel_rfl) (by omega) (kinds_of (by kernel_rfl)) (hval 1 36 v1 rfl rfl) h1
  clear hA0 hval0
  refine (walk a0 (bounds_i64 w0) sq1 sg1 so1 sn1 sk1 sl1 hl1 hk1 hp1 hg1 hc1).mono fun e W' ⟨he, bel⟩ => ?_
  subst he
  exact ⟨_, rfl, _, _, _, [], _, [], hW', trodAll_mk1 (shut_bool Try.underlying4 _), (trodAll_cons_mk (Below.trod laidOut (by kernel_rfl) (of_decide_eq_true (by kernel_rfl)) k0 bel lt0) (trodAll_cons_mk (Below.trod laidOut (by kernel_rfl) (of_decide_eq_true (by kernel_rfl)) k1 bel lt1) trodAll_mk0)), rfl, bel.frame _, fun h => by cases h⟩

theorem over : Rows.tenureEpochsRow.holds Try.pinned (OpenSpec.ofChange Rows.tenureEpochsSpec) :=
  OpenClaim.holds_of_wide 5 Try.f5 rfl rfl rfl rfl rfl rfl rfl ⟨rfl, rfl, rfl, rfl, rfl⟩ rfl rfl rfl rfl rfl (by kernel_rfl) Try.func5 (by kernel_rfl)
    (of_decide_eq_true (by kernel_rfl)) (by unfold Func.isWrapper; first | (rw [if_pos (by decide +kernel)]; kernel_rfl) | (rw [if_neg (by decide +kernel)]; exact ⟨rfl, rfl⟩))
    (fun os started H enc _ => lifted os started H enc)

theorem proved : Rows.TenureEpochsSaid := over
end Go.Proofs.Ytddpdmolknfjaaa.tenureEpochs
namespace Go.Proofs.Ytddpdmolknfjaaa
theorem tenureEpochs_holds : Rows.TenureEpochsSaid := tenureEpochs.proved
#print axioms tenureEpochs_holds
end Go.Proofs.Ytddpdmolknfjaaa
