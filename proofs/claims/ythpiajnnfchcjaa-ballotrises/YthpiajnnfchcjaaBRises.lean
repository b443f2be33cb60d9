/-
  Registers stay in form, neither what is promised nor what is accepted becomes less, and behind a promise no lesser ballot is accepted: estuarylaw09.BallotRises returns true for every input; no condition.
-/
import Derived.Test.YthpiajnnfchcjaaBlS
import Derived.Test.YthpiajnnfchcjaaBlG
import Derived.ProofKit
import Derived.OpenShut
import Derived.ChangeOld
import Derived.Below
namespace Go.Proofs.Ythpiajnnfchcjaa.ballotRises
open Go.ChangeShapes Go.WideShapes Go.ChangeAt Go.RowKit Go.Joins
set_option linter.unusedVariables false
attribute [local go_sem] ok_foldB

theorem ne20 (w : World) : (binOp .neq 35 (Err 2) .nilIface).run Try.prog w = .ok (.bool true) w := by kernel_rfl
theorem neb0 (w : World) : (binOp .neq 35 (Err 11) .nilIface).run Try.prog w = .ok (.bool true) w := by kernel_rfl
theorem nenil (w : World) : (binOp .neq 35 .nilIface .nilIface).run Try.prog w = .ok (.bool false) w := by kernel_rfl
theorem ne22b (w : World) : (binOp .neq 35 (Err 2) (Err 2)).run Try.prog w = .ok (.bool false) w := by kernel_rfl
theorem neb2 (w : World) : (binOp .neq 35 (Err 11) (Err 2)).run Try.prog w = .ok (.bool true) w := by kernel_rfl
theorem nebb (w : World) : (binOp .neq 35 (Err 11) (Err 11)).run Try.prog w = .ok (.bool false) w := by kernel_rfl
section
variable {ops : Array Oper} {rest : List Oper} {o : Oper} {a : Act} {w : World} {Q : Exit → Act → World → Prop}
theorem st_bt (hgd : o.guard = none) {x y : Operand} (ho : o.op = .store 23 x y) {g : Nat} {b0 b1 : Bt} {t : TypeId} (hB : Blk w g (bC b0) t) (hx : a.eval x = .pointer (some ⟨g, 0, none⟩)) (hy : a.eval y = bV b1)
    (h : ∀ W', Blk W' g (bC b1) t → Chg g w W' → wpList Try.prog ops Q rest (a.put o.dst undef) W') : wpList Try.prog ops Q (o :: rest) a w :=
  st_blk hgd ho hB hx hy (info_bt b1) rfl (bt_one _) h
end
theorem ints_is (v u : Value) (l m : List Int) (w : World) (hv : Is w v l) (hu : Is w u m) (hl : l.length ≤ 100000) (hm : m.length ≤ 100000) :
    Calls Try.prog 22 #[v, u] w fun e w' => e = .returned (.bool (decide (l = m))) ∧ Below w.heap.size w w' := by
  obtain ⟨q, cap, g, off, rfl, h1, h2, h3, h4, h5⟩ := hv
  obtain ⟨q', cap', g', off', rfl, k1, k2, k3, k4, k5⟩ := hu
  exact ints_any _ _ _ _ _ l _ _ _ _ _ m w rfl rfl hl hm h3 k3 h5 k5 h4 k4
theorem cells5 {W : World} {g : Nat} {ac : Bool} {b : Bt} {v : Value} {t : TypeId} (h : Blk W g #[.bool ac, .int .i64 b.n, .int .i64 b.nd, .int .i64 b.lf, v] t) : (∀ V, Below W.heap.size W V → V.cell? ⟨g, 0, none⟩ = some (.bool ac)) ∧ (∀ V, Below W.heap.size W V → V.cell? ⟨g, 1, none⟩ = some (.int .i64 b.n)) ∧ (∀ V, Below W.heap.size W V → V.cell? ⟨g, 2, none⟩ = some (.int .i64 b.nd)) ∧
    (∀ V, Below W.heap.size W V → V.cell? ⟨g, 3, none⟩ = some (.int .i64 b.lf)) ∧ (∀ V, Below W.heap.size W V → V.cell? ⟨g, 4, none⟩ = some v) :=
  ⟨fun V hb => (h.keep hb).at rfl, fun V hb => (h.keep hb).at rfl, fun V hb => (h.keep hb).at rfl, fun V hb => (h.keep hb).at rfl, fun V hb => (h.keep hb).at rfl⟩
set_option maxHeartbeats 4000000 in
set_option maxRecDepth 100000 in
theorem walk {W : World} (q : Option Addr) (n cap g off : Nat) (os : List StD) (hs : Sc9 W q n cap g off os) :
    Calls Try.prog 5 #[.slice q n cap] W fun e w' => e = .returned (.bool true) ∧ Below W.heap.size W w' := by
  obtain ⟨hlen, hc, hm, hp, hg, hat⟩ := hs
  go_enter Try.func5, Try.ntmps5
  go_upto_region 3 with (go_at_call 11; refine (alive9_any _).mono ?_; rintro e W1 ⟨rfl, b1⟩)
  by_cases c1 : n ≤ 300
  rotate_left
  · have c2 : ¬ (n : Int) ≤ 300 := by omega
    clear hp hg hat
    go_wp2_with fail
    go_ret
    exact ⟨rfl, b1⟩
  have c2 : (n : Int) ≤ 300 := by omega
  go_upto_region 7 with fail
  obtain ⟨V, hE, hR, hM, b2⟩ := blk2 W1 (rC zB zB (.slice none 0 0)) (bC zB) 31 23
  rw [show (W1.alloc (.cells #[.int .i64 0, .int .i64 0, .int .i64 0, .int .i64 0, .int .i64 0, .int .i64 0, .slice none 0 0] 31)).alloc (.cells #[.int .i64 0, .int .i64 0, .int .i64 0] 23) = V from hE]
  have hwV := ab_trans b1 b2
  have hge : W.heap.size ≤ W1.heap.size := b1.size
  clear hE b1 b2
  generalize W1.heap.size = g3 at *
  go_wp2_with fail
  go_loopw [18] (fun i wr => ∃ (j : Nat) (R : Rg) (q' : Option Addr) (n' c' : Nat), j ≤ n ∧ i = .int .i64 (j : Int) ∧ gdR R = true ∧ R.l.length = n' ∧ Blk wr g3 (rC R.p R.a (.slice q' n' c')) 31 ∧ Is wr (.slice q' n' c') R.l ∧ Blk wr (g3 + 1) (bC R.p) 23 ∧ Below W.heap.size W wr) (fun i _ => n - (intOf i).toNat)
  case atStart => exact ⟨0, zR, none, 0, 0, by omega, rfl, by decide +kernel, rfl, hR, Is.nil _, hM, hwV⟩
  case round =>
    clear hR hM hwV
    obtain ⟨j, R, q', n', c', hj, rfl, hgd, hn', hR, hI, hM, hw⟩ := hrel
    by_cases cj : j = n
    · subst cj
      clear hp hg hat
      go_wp2_with fail
      go_ret
      exact ⟨rfl, hw⟩
    · obtain ⟨x, hx⟩ : ∃ x, os[j]? = some x := ⟨os[j], List.getElem?_eq_getElem (by omega)⟩
      obtain rfl := hp (by omega)
      have ox := (hat j x hx).keep (hg (by omega)) hw
      obtain ⟨d0, d1, d2, d3, d4, sl⟩ := ox
      have hji : (j : Int) < (n : Int) := by omega
      have hjn : j < n := by omega
      obtain ⟨ac, b, vx, m⟩ := x
      dsimp only at d0 d1 d2 d3 d4 sl
      obtain ⟨qx, cx, ex⟩ := sl.form
      obtain ⟨k, hk⟩ : ∃ k, m.length = k := ⟨_, rfl⟩
      rw [hk] at ex
      subst ex
      clear hat hp hg hx
      go_upto_region 10 with fail
      obtain ⟨A, hE, hS, b1⟩ := blk1 wr #[.bool ac, .int .i64 b.n, .int .i64 b.nd, .int .i64 b.lf, .slice qx k cx] 49
      rw [hE]
      have hRA := hR.keep b1
      have hIA := hI.keep b1
      have hMA := hM.keep b1
      have slA := sl.keep b1
      have hwA := ab_trans hw b1
      have HG3 : Hid (g3 + 1 < wr.heap.size) := hM.lt
      clear hE hR hI hM sl hw b1 d0 d1 d2 d3 d4
      generalize wr.heap.size = g6 at *
      obtain ⟨r0, r1, r2, r3, r4, r5, r6⟩ := cells7 hRA
      obtain ⟨s0, s1, s2, s3, s4⟩ := cells5 hS
      have hbv := Below.refl A.heap.size A
      obtain ⟨HO, HO2⟩ := pr_out b hgd
      obtain ⟨T, hTe⟩ : ∃ T, prR R b = T := ⟨_, rfl⟩
      obtain ⟨N, hNe⟩ : ∃ N, prN R b = N := ⟨_, rfl⟩
      rw [hTe, hNe] at HO HO2
      go_upto_region 11 with (go_at_call 13; refine (prepare_any R b _ _ hIA).mono ?_; rintro e W5 ⟨⟨qT, nT, cT, rfl, hO5, hnT⟩, b5⟩; rw [hTe] at hO5 hnT ⊢; rw [hNe])
      obtain ⟨V7, hE, hT, b5'⟩ := blk1 W5 (rC T.p T.a (.slice qT nT cT)) 31
      rw [hE]
      have hb57 := ab_trans b5 b5'
      have hR7 := hRA.keep hb57
      have hI7 := hIA.keep hb57
      have hM7 := hMA.keep hb57
      have sl7 := slA.keep hb57
      have hw7 := ab_trans hwA hb57
      have hS7 := hS.keep hb57
      have hOT := hO5.keep b5'
      have hIT := hOT.is
      have HGA : Hid (g3 + 1 < A.heap.size) := hMA.lt
      have HA7 : Hid (Below A.heap.size A V7) := hb57
      have HG7 : Hid (A.heap.size ≤ W5.heap.size) := b5.size
      have HG6 : Hid (g6 < W5.heap.size) := Nat.lt_of_lt_of_le hS.lt b5.size
      clear hE hTe hNe hRA hMA slA hwA hO5 b5 b5' hb57 r0 r1 r2 r3 r4 r5 r6 s0 s1 s2 s3 s4 hbv hS
      generalize W5.heap.size = g7 at *
      have y0 := hS7.at (i := 0) rfl
      cases ac
      · clear sl7
        rcases HO with ⟨rfl, x1, x2, x3, x4⟩ | ⟨rfl | rfl, rfl⟩
        · obtain ⟨x5, x6⟩ := HO2 rfl
          have HGT : Hid (gdN b T.a nT = true) := by show _ = _; rw [← x2, ← hnT]; exact x1
          rw [show errV 0 = .nilIface from rfl]
          obtain ⟨Tp, Ta, Tl⟩ := T
          dsimp only at x1 x2 x3 x4 x5 x6 hT hIT hnT HGT ⊢
          subst x2 x5 x6
          obtain ⟨z0, z1, z2, z3, z4, z5, z6⟩ := cells7 hT
          obtain ⟨r0, r1, r2, r3, r4, r5, r6⟩ := cells7 hR7
          obtain ⟨p0, p1, p2⟩ := cells3 hM7
          obtain ⟨s0, s1, s2, s3, s4⟩ := cells5 hS7
          have hb7 := Below.refl V7.heap.size V7
          have E1 := nenil
          go_wp2_with fail
          refine (rbless_any Tp R.p _).mono ?_
          rintro e Z2 ⟨rfl, b9⟩
          rw [x3]
          have hb7 := ab_trans hb7 b9
          go_wp2_with fail
          refine (rbless_any R.a R.a _).mono ?_
          rintro e Z3 ⟨rfl, b10⟩
          rw [x4]
          have hb7 := ab_trans hb7 b10
          go_wp2_with fail
          refine (good9_any Tp R.a qT nT cT _).mono ?_
          rintro e Z4 ⟨rfl, b11⟩
          rw [HGT.out]
          have hb7 := ab_trans hb7 b11
          have HQ := eq3 R.a R.a
          rw [eqB_iff.2 rfl] at HQ
          go_wp2_with fail
          refine (ints_is _ _ R.l R.l _ (hIT.keep hb7) (hI7.keep hb7) (by have := gd_le hgd; omega) (by have := gd_le hgd; omega)).mono ?_
          rintro e Z5 ⟨rfl, b12⟩
          rw [decide_eq_true (rfl : R.l = R.l)]
          have hb7 := ab_trans hb7 b12
          go_upto_region 20 with fail
          have hR8 := hR7.keep hb7
          have hM8 := hM7.keep hb7
          have hIT8 := hIT.keep hb7
          have hw8 := ab_trans hw7 hb7
          have hT8 := hT.keep hb7
          have hO8 := hOT.keep hb7
          clear z0 z1 z2 z3 z4 z5 z6 r0 r1 r2 r3 r4 r5 r6 p0 p1 p2 s0 s1 s2 s3 s4 hIT8
          have hgg : g3 + 1 < g7 := Nat.lt_trans HG3.out HG6.out
          refine wp_region_held_drew (S := fun w' => Blk w' g7 (rC Tp R.a (.slice qT nT cT)) 31) (by kernel_rfl) hT8.drew (fun hHeld => ?_)
          refine takeH (i := 0) (some 101) rfl rfl (by kernel_rfl) (by kernel_rfl) (by kernel_rfl) (fun _ _ _ h => h) (by rfl) (fun w hSw => by (try dsimp only at hSw); have y0 := hSw.at (i := 0) rfl; have y1 := hSw.at (i := 1) rfl; have y2 := hSw.at (i := 2) rfl; have y3 := hSw.at (i := 3) rfl; have y4 := hSw.at (i := 4) rfl; have y5 := hSw.at (i := 5) rfl; have y6 := hSw.at (i := 6) rfl; go_simp; try rfl) hHeld ?_
          go_frame
          refine takeH (i := 1) (some 102) rfl rfl (by kernel_rfl) (by kernel_rfl) (by kernel_rfl) (fun _ _ _ h => h) (by rfl) (fun w hSw => by (try dsimp only at hSw); go_simp; try rfl) hHeld ?_
          go_frame
          refine takeH (i := 2) (some 103) rfl rfl (by kernel_rfl) (by kernel_rfl) (by kernel_rfl) (fun _ _ _ h => h) (by rfl) (fun w hSw => by (try dsimp only at hSw); have y0 := hSw.at (i := 0) rfl; have y1 := hSw.at (i := 1) rfl; have y2 := hSw.at (i := 2) rfl; go_simp; try rfl) hHeld ?_
          go_frame
          refine wpAnyH_ready (rs := [3]) (by kernel_rfl) (by simp) (AllReadyH.cons rfl (fun K hK => ?_) AllReadyH.nil)
          rw [if_pos (by rfl)]
          refine stW none rfl rfl hR8.drew rfl rfl (info_rg Tp R.a (.slice qT nT cT)) rfl (rg_one Tp R.a _ _ _) fun Y1 hRY C1 => ?_
          refine hK.out _ _ (hHeld.chg C1 (by omega)) (fun hHeld => ?_)
          clear hK K
          refine wpAnyH_ready (rs := [4]) (by kernel_rfl) (by simp) (AllReadyH.cons rfl (fun K hK => ?_) AllReadyH.nil)
          rw [if_pos (by rfl)]
          refine stW none rfl rfl (hM8.drew.chg C1 (by omega)) rfl rfl (info_bt Tp) rfl (bt_one Tp) fun Y2 hMY C2 => ?_
          refine hK.out _ _ (hHeld.chg C2 (by omega)) (fun hHeld => ?_)
          clear hK K
          refine wpAnyH_done (by kernel_rfl) ?_ _
          have hw8 := ab_drew hw8
          have hO8 : Io Z5.drew A.heap.size (.slice qT nT cT) R.l := hO8.keep (ab_drew (Below.refl _ _))
          go_wp2_with fail
          exact ⟨⟨j + 1, ⟨Tp, R.a, R.l⟩, qT, nT, cT, by omega, rfl, x1, hnT, hRY.chg C2 (by omega), (io_chg (io_chg hO8 C1 (by have := HGA.out; omega)) C2 (by have := HGA.out; omega)).is, hMY, ab_chg (ab_chg hw8 C1 (by omega)) C2 (by omega)⟩, by simp only [intOf]; omega⟩
        · rw [show errV 2 = Err 2 from rfl]
          obtain ⟨z0, z1, z2, z3, z4, z5, z6⟩ := cells7 hT
          have hb7 := Below.refl V7.heap.size V7
          have E1 := ne20
          have E2 := ne22b
          go_wp2_with fail
          refine (same9_yes zR _ _ _ hIT (Is.nil _) (by decide)).mono ?_
          rintro e Z8 ⟨rfl, b8⟩
          have hb7 := ab_trans hb7 b8
          go_wp2_with fail
          exact ⟨⟨j + 1, R, q', n', c', by omega, rfl, hgd, hn', hR7.keep b8, hI7.keep b8, hM7.keep b8, ab_trans hw7 b8⟩, by simp only [intOf]; omega⟩
        · rw [show errV 11 = Err 11 from rfl]
          obtain ⟨z0, z1, z2, z3, z4, z5, z6⟩ := cells7 hT
          have hb7 := Below.refl V7.heap.size V7
          have E1 := neb0
          have E2 := neb2
          have E3 := nebb
          go_wp2_with fail
          refine (same9_yes zR _ _ _ hIT (Is.nil _) (by decide)).mono ?_
          rintro e Z8 ⟨rfl, b8⟩
          have hb7 := ab_trans hb7 b8
          go_wp2_with fail
          exact ⟨⟨j + 1, R, q', n', c', by omega, rfl, hgd, hn', hR7.keep b8, hI7.keep b8, hM7.keep b8, ab_trans hw7 b8⟩, by simp only [intOf]; omega⟩
      · clear HO HO2 hIT hOT HGA
        have HO := ac_out b m hgd
        obtain ⟨U, hUe⟩ : ∃ T, acR R b m = T := ⟨_, rfl⟩
        obtain ⟨M, hMe⟩ : ∃ N, acN R b m = N := ⟨_, rfl⟩
        rw [hUe, hMe] at HO
        obtain ⟨r0, r1, r2, r3, r4, r5, r6⟩ := cells7 hR7
        obtain ⟨s0, s1, s2, s3, s4⟩ := cells5 hS7
        have hbv := Below.refl V7.heap.size V7
        have HGV : Hid (g7 < V7.heap.size) := hT.lt
        go_upto_region 13 with (first
          | (go_at_call 15; refine (accept_any R b _ _ m _ hI7 sl7).mono ?_; rintro e W9 ⟨⟨qU, nU, cU, rfl, hO9, hnU⟩, b9⟩; rw [hUe] at hO9 hnU ⊢; rw [hMe])
          | (refine st_rg rfl rfl (p1 := U.p) (a1 := U.a) (hT.keep b9) rfl rfl ?_; intro V9 hU C9))
        have HGA : Hid (g3 + 1 < V7.heap.size) := hM7.lt
        have hR9 := (hR7.keep b9).chg C9 (by have := HG3.out; have := HG6.out; omega)
        have hM9 := (hM7.keep b9).chg C9 (by have := HG3.out; have := HG6.out; omega)
        have hS9 := (hS7.keep b9).chg C9 (by have := HG6.out; omega)
        have hI9 := hIA.keep (ab_chg (ab_trans HA7.out b9) C9 HG7.out)
        have hOU := io_chg hO9 C9 HGV.out
        have hw9 := ab_chg (ab_trans hw7 b9) C9 (by have := HG3.out; have := HG6.out; omega)
        clear r0 r1 r2 r3 r4 r5 r6 s0 s1 s2 s3 s4 hbv hT hR7 hM7 hS7 hI7 sl7 hw7 hO9 b9 C9 hUe hMe hnT y0
        have hIT := hOU.is
        rcases HO with ⟨rfl, x1, x2, x3, x4⟩ | ⟨rfl | rfl, rfl⟩
        · have HGT : Hid (gdN b U.a nU = true) := by show _ = _; rw [← x2, ← hnU]; exact x1
          rw [show errV 0 = .nilIface from rfl]
          obtain ⟨Tp, Ta, Tl⟩ := U
          dsimp only at x1 x2 x3 x4 hU hIT hOU hnU HGT ⊢
          subst x2
          obtain ⟨z0, z1, z2, z3, z4, z5, z6⟩ := cells7 hU
          obtain ⟨r0, r1, r2, r3, r4, r5, r6⟩ := cells7 hR9
          obtain ⟨p0, p1, p2⟩ := cells3 hM9
          obtain ⟨s0, s1, s2, s3, s4⟩ := cells5 hS9
          have hb7 := Below.refl V9.heap.size V9
          have E1 := nenil
          go_wp2_with fail
          refine (rbless_any Tp R.p _).mono ?_
          rintro e Z1 ⟨rfl, b8⟩
          rw [x3]
          have hb7 := ab_trans hb7 b8
          go_wp2_with fail
          refine (rbless_any Tp R.p _).mono ?_
          rintro e Z2 ⟨rfl, b9⟩
          rw [x3]
          have hb7 := ab_trans hb7 b9
          go_wp2_with fail
          refine (rbless_any Ta R.a _).mono ?_
          rintro e Z3 ⟨rfl, b10⟩
          rw [x4]
          have hb7 := ab_trans hb7 b10
          go_wp2_with fail
          refine (good9_any Tp Ta qU nU cU _).mono ?_
          rintro e Z4 ⟨rfl, b11⟩
          rw [HGT.out]
          have hb7 := ab_trans hb7 b11
          go_upto_region 20 with fail
          have hR8 := hR9.keep hb7
          have hM8 := hM9.keep hb7
          have hIT8 := hIT.keep hb7
          have hw8 := ab_trans hw9 hb7
          have hT8 := hU.keep hb7
          have hO8 := hOU.keep hb7
          clear z0 z1 z2 z3 z4 z5 z6 r0 r1 r2 r3 r4 r5 r6 p0 p1 p2 s0 s1 s2 s3 s4 hIT8
          have hgg : g3 + 1 < g7 := Nat.lt_trans HG3.out HG6.out
          refine wp_region_held_drew (S := fun w' => Blk w' g7 (rC Tp Ta (.slice qU nU cU)) 31) (by kernel_rfl) hT8.drew (fun hHeld => ?_)
          refine takeH (i := 0) (some 101) rfl rfl (by kernel_rfl) (by kernel_rfl) (by kernel_rfl) (fun _ _ _ h => h) (by rfl) (fun w hSw => by (try dsimp only at hSw); have y0 := hSw.at (i := 0) rfl; have y1 := hSw.at (i := 1) rfl; have y2 := hSw.at (i := 2) rfl; have y3 := hSw.at (i := 3) rfl; have y4 := hSw.at (i := 4) rfl; have y5 := hSw.at (i := 5) rfl; have y6 := hSw.at (i := 6) rfl; go_simp; try rfl) hHeld ?_
          go_frame
          refine takeH (i := 1) (some 102) rfl rfl (by kernel_rfl) (by kernel_rfl) (by kernel_rfl) (fun _ _ _ h => h) (by rfl) (fun w hSw => by (try dsimp only at hSw); go_simp; try rfl) hHeld ?_
          go_frame
          refine takeH (i := 2) (some 103) rfl rfl (by kernel_rfl) (by kernel_rfl) (by kernel_rfl) (fun _ _ _ h => h) (by rfl) (fun w hSw => by (try dsimp only at hSw); have y0 := hSw.at (i := 0) rfl; have y1 := hSw.at (i := 1) rfl; have y2 := hSw.at (i := 2) rfl; go_simp; try rfl) hHeld ?_
          go_frame
          refine wpAnyH_ready (rs := [3]) (by kernel_rfl) (by simp) (AllReadyH.cons rfl (fun K hK => ?_) AllReadyH.nil)
          rw [if_pos (by rfl)]
          refine stW none rfl rfl hR8.drew rfl rfl (info_rg Tp Ta (.slice qU nU cU)) rfl (rg_one Tp Ta _ _ _) fun Y1 hRY C1 => ?_
          refine hK.out _ _ (hHeld.chg C1 (by omega)) (fun hHeld => ?_)
          clear hK K
          refine wpAnyH_ready (rs := [4]) (by kernel_rfl) (by simp) (AllReadyH.cons rfl (fun K hK => ?_) AllReadyH.nil)
          rw [if_pos (by rfl)]
          refine stW none rfl rfl (hM8.drew.chg C1 (by omega)) rfl rfl (info_bt Tp) rfl (bt_one Tp) fun Y2 hMY C2 => ?_
          refine hK.out _ _ (hHeld.chg C2 (by omega)) (fun hHeld => ?_)
          clear hK K
          refine wpAnyH_done (by kernel_rfl) ?_ _
          have hw8 := ab_drew hw8
          have hO8 : Io Z4.drew V7.heap.size (.slice qU nU cU) Tl := hO8.keep (ab_drew (Below.refl _ _))
          go_wp2_with fail
          exact ⟨⟨j + 1, ⟨Tp, Ta, Tl⟩, qU, nU, cU, by omega, rfl, x1, hnU, hRY.chg C2 (by omega), (io_chg (io_chg hO8 C1 (by have := HGA.out; omega)) C2 (by have := HGA.out; omega)).is, hMY, ab_chg (ab_chg hw8 C1 (by omega)) C2 (by omega)⟩, by simp only [intOf]; omega⟩
        · rw [show errV 2 = Err 2 from rfl]
          obtain ⟨z0, z1, z2, z3, z4, z5, z6⟩ := cells7 hU
          have hb7 := Below.refl V9.heap.size V9
          have E1 := ne20
          have E2 := ne22b
          go_wp2_with fail
          refine (same9_yes zR _ _ _ hIT (Is.nil _) (by decide)).mono ?_
          rintro e Z8 ⟨rfl, b8⟩
          have hb7 := ab_trans hb7 b8
          go_wp2_with fail
          exact ⟨⟨j + 1, R, q', n', c', by omega, rfl, hgd, hn', hR9.keep b8, hI9.keep b8, hM9.keep b8, ab_trans hw9 b8⟩, by simp only [intOf]; omega⟩
        · rw [show errV 11 = Err 11 from rfl]
          obtain ⟨z0, z1, z2, z3, z4, z5, z6⟩ := cells7 hU
          have hb7 := Below.refl V9.heap.size V9
          have E1 := neb0
          have E2 := neb2
          have E3 := nebb
          go_wp2_with fail
          refine (same9_yes zR _ _ _ hIT (Is.nil _) (by decide)).mono ?_
          rintro e Z8 ⟨rfl, b8⟩
          have hb7 := ab_trans hb7 b8
          go_wp2_with fail
          exact ⟨⟨j + 1, R, q', n', c', by omega, rfl, hgd, hn', hR9.keep b8, hI9.keep b8, hM9.keep b8, ab_trans hw9 b8⟩, by simp only [intOf]; omega⟩
theorem own : ownKnob Try.prog.godebug = none := by kernel_rfl
theorem laidOut : laidOutB Try.prog = true := by kernel_rfl

set_option maxRecDepth 100000 in
theorem lifted (os : Os) (started : os.Started) (H : Type) (enc : TypeId × Value → H) :
    ReturnsInHanded {} Try.checked os 5 .any (Rows.ballotRisesSpec.pre6 enc Try.prog Try.f5 Rows.ballotRisesRow.domain false) (Rows.ballotRisesSpec.post enc Try.prog Try.f5 false true false false) := by
  refine returnsInHanded_of_change (C := Try.checked) own started (by kernel_rfl) Try.func5
    (ChangeSpec.witness6 (enc := enc) (C := Try.checked) false ⟨#[], #[.slice none 0 0], []⟩ 8 (by kernel_rfl) (by kernel_rfl) (by kernel_rfl) (by kernel_rfl)) ?_
  intro W base args ds gs before hval0 hW hcnd _
  have hval : ∀ (j : Nat) t v, Try.f5.params[j]? = some t → args[j]? = some v → Value.okWide Try.prog W .any base t v := hval0
  have hW' := hW
  obtain ⟨p, q, hA0, hV, rfl, hfz, hnd⟩ := hW
  have hA : DataW.TrodAll enc Try.prog W 0 (fun _ => true) true Try.f5.params.toList args.toList ds p := hA0
  rw [Try.params5] at hA hval
  obtain ⟨v0, vs0, d0, ds0, p0, q0, hargs, rfl, rfl, h0, r0⟩ := trodAll_cons hA
  obtain ⟨rfl, rfl, rfl⟩ := trodAll_nil r0
  obtain rfl : args = #[v0] := by cases args; simp_all
  obtain ⟨rfl, rfl⟩ := trodVars_none hV
  have k0 := h0
  have lt0 : ∀ x ∈ p0, x.block < W.heap.size := by obtain ⟨m, hm⟩ := k0; exact DataW.trod_lt m _ _ _ hm
  obtain ⟨sq0_, sn0_, sk0_, sg0_, so0_, os0_, rfl, SC0_⟩ := open_steps (hval 0 47 v0 rfl rfl) h0
  clear hA0 hval0
  refine (walk sq0_ sn0_ sk0_ sg0_ so0_ os0_ SC0_).mono fun e W' ⟨he, bel⟩ => ?_
  subst he
  exact ⟨_, rfl, _, _, _, [], _, [], hW', trodAll_mk1 (shut_bool Try.underlying4 _), (trodAll_cons_mk (Below.trod laidOut (by kernel_rfl) (of_decide_eq_true (by kernel_rfl)) k0 bel lt0) trodAll_mk0), rfl, bel.frame _, fun h => by cases h⟩

theorem over : Rows.ballotRisesRow.holds Try.pinned (OpenSpec.ofChange Rows.ballotRisesSpec) :=
  OpenClaim.holds_of_wide 5 Try.f5 rfl rfl rfl rfl rfl rfl rfl ⟨rfl, rfl, rfl, rfl, rfl⟩ rfl rfl rfl rfl rfl (by kernel_rfl) Try.func5 (by kernel_rfl)
    (of_decide_eq_true (by kernel_rfl)) (by unfold Func.isWrapper; first | (rw [if_pos (by decide +kernel)]; kernel_rfl) | (rw [if_neg (by decide +kernel)]; exact ⟨rfl, rfl⟩))
    (fun os started H enc _ => lifted os started H enc)

theorem proved : Rows.BallotRisesSaid := over
end Go.Proofs.Ythpiajnnfchcjaa.ballotRises
namespace Go.Proofs.Ythpiajnnfchcjaa
theorem ballotRises_holds : Rows.BallotRisesSaid := ballotRises.proved
#print axioms ballotRises_holds
end Go.Proofs.Ythpiajnnfchcjaa
