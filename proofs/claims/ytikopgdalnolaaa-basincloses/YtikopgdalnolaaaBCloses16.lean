/-
  What is closed is complete: estuarylaw16.BasinCloses returns true for every input; no condition.
-/
import Derived.Test.YtikopgdalnolaaaPk46
import Derived.Test.YtikopgdalnolaaaPk47
import Derived.Test.YtikopgdalnolaaaPk20
import Derived.Test.YtikopgdalnolaaaPk08
import Derived.Test.YtikopgdalnolaaaPk31
import Derived.ProofKit
import Derived.OpenShut
import Derived.ChangeOld
import Derived.Below
import Derived.Lib.SmallJoins
namespace Go.Proofs.Ytikopgdalnolaaa.basinCloses
open Go.ChangeShapes Go.WideShapes Go.ChangeAt Go.RowKit Go.Joins
set_option linter.unusedVariables false
set_option maxRecDepth 100000

theorem rids_is (o : Op5) (v : Value) (l : List Int) (sh : Int) (w : World) (hv : Is w v l) (ho : Fit5 o) (hl : ∀ r ∈ l, r ≤ 9223372036854775807) (h1 : sh ≤ 9223372036854775807) (hb : l.length ≤ 100000) :
    Calls Try.prog 13 #[opV o, v, .int .i64 sh] w fun e w' => ∃ v', e = .returned v' ∧ EO E3k 47 w' w.heap.size v' (idL o.t o.y sh l) ∧ Below w.heap.size w w' := by
  obtain ⟨q, cap, g, off, rfl, hc, hm, hp, hg, hr⟩ := hv
  refine (rids_any o.s o.k o.t o.y o.v q g off l.length cap l sh w rfl hb hp hg hr ho.t.1 ho.t.2 ho.y.1 ho.y.2 h1 (fun j r hj => hl r (List.mem_of_getElem? hj))).mono ?_
  rintro e w' ⟨v, rfl, hO, hb⟩
  exact ⟨v, rfl, eo_of (n := l.length) hO, hb⟩
set_option maxHeartbeats 4000000 in
theorem cl_walk {W : World} (v : Value) (ms : List Int) (hv : Is W v ms) (hb : In64 ms) (o : Op5) (ho : Fit5 o) (r : Int) (hr : -9223372036854775808 ≤ r ∧ r ≤ 9223372036854775807) :
    Calls Try.prog 5 #[v, opV o, .int .i64 r] W fun e w' => e = .returned (.bool true) ∧ Below W.heap.size W w' := by
  obtain ⟨q, cap, g, off, rfl, hc, hm, hp, hg, hrow⟩ := hv
  obtain ⟨A, hE, hX, hw⟩ := blk1 W (opA o) 27
  have hWA : W.heap.size < A.heap.size := hX.lt
  have HR : Hid (∀ V, Below W.heap.size W V → ∀ j x, ms[j]? = some x → V.cell? ⟨g, off + j, none⟩ = some (.int .i64 x)) := fun V hV j x hj => keep_cell hV (hrow j x hj) (hg (by have := (List.getElem?_eq_some_iff.1 hj).1; omega))
  have HJ : Hid (∀ x ∈ ms, J64 x) := fun x hx => hb x hx
  clear hrow hg hb
  generalize hn : ms.length = n at *
  unfold opV opA
  unfold opA at hE
  go_enter Try.func5, Try.ntmps5
  go_upto_region 3 with (go_at_call 8; refine (alive16_any _).mono ?_; rintro e W1 ⟨rfl, a1⟩)
  clear hE
  have hX1 := hX.keep a1
  have hw1 := ab_trans hw a1
  by_cases c0 : n < 1
  · have c0' : (n : Int) < 1 := by omega
    go_wp2_with fail
    go_ret
    exact ⟨rfl, hw1⟩
  by_cases c4 : 4 < n
  · have c4' : (4 : Int) < (n : Int) := by omega
    go_wp2_with fail
    go_ret
    exact ⟨rfl, hw1⟩
  by_cases cr : r < 1
  · go_wp2_with fail
    go_ret
    exact ⟨rfl, hw1⟩
  obtain ⟨B1, hE1, hY1, b1⟩ := blk1 W1 #[.int .i64 r] 3
  have hok : newOK (n : Int) [r] 1 10 = true := newOK_iff.2 ⟨by omega, goodR_iff.2 ⟨fun x hx => by simp at hx; omega, by simp, by omega⟩, by omega⟩
  have HN := banew_ok n _ [r] 1 10 B1 (is_one hY1) (fun x hx => by simp at hx; omega) hok
  have hS0 : newBsn n [r] 1 10 = clS ms r 0 := by rw [← hn]; exact cl_0 ms r
  rw [hS0] at HN
  obtain rfl := hp (by omega)
  have c0' : ¬ (n : Int) < 1 := by omega
  have c4' : ¬ (4 : Int) < (n : Int) := by omega
  clear hok hS0 hp
  go_upto_region 8 with (go_at_call 9; refine HN.mono ?_; rintro e W2 ⟨⟨K, rfl, hB2⟩, b2⟩)
  have hge : ∀ k, bkB K k → A.heap.size ≤ k := fun k hk => Nat.le_trans (Nat.le_trans a1.size b1.size) (hB2.bks hk).1
  have hb2 := ab_trans b1 b2
  have hx2 := hX1.keep hb2
  have hw2 := ab_trans hw1 hb2
  clear HN hE1 hY1 b1 b2 hX hX1 hb2 a1 hw1
  go_wp2_with fail
  go_loopw [44] (fun z wr => ∃ k : Nat, k ≤ n ∧ z = .int .i64 (k : Int) ∧ Bq wr B1.heap.size K (clS ms r k) ∧ Blk wr W.heap.size (opA o) 27 ∧ Below W.heap.size W wr) (fun z _ => n - (intOf z).toNat)
  case atStart => exact ⟨0, by omega, rfl, hB2, hx2, hw2⟩
  case round =>
    clear hB2 hx2 hw2
    obtain ⟨k, hk, rfl, hB, hO, hwr⟩ := hrel
    by_cases ckn : k = n
    · subst ckn
      have HCl := baclosed_at 0 wr hB (by show 0 < ([lstP] : List (Int × Int)).length; simp)
      have k1 := cl_cls ms r
      have k2 := cl_lm_yes ms r
      rw [hn] at k1 k2
      rw [k1, k2] at HCl
      dsimp only at HCl
      have HAh : Hid (∀ m ∈ ms, pl (flD (max o.t m) r) o.y (flD (lmV (clS ms r k).fl) r) (-9223372036854775808) = false) := fun m hm => by
        have := cl_ahead (ms := ms) (r := r) (m := m) (t := o.t) (y := o.y) hm (by omega) ho.y
        rw [hn] at this
        exact this
      generalize flD (lmV (clS ms r k).fl) r = fw at *
      clear k1 k2 hB
      go_upto_region 20 with (go_at_call 22; refine HCl.mono ?_; rintro e W3 ⟨rfl, b3⟩; obtain ⟨W4, hE4, hX4, b4⟩ := blk1 W3 #[.int .i64 fw, .int .i64 (-9223372036854775808)] 38)
      have hO4 := (hO.keep b3).keep b4
      have hw4 := ab_trans (ab_trans hwr b3) b4
      clear HCl hE4 b4 b3 hO hwr
      go_wp2_with fail
      go_loopw [74] (fun z wr => ∃ j : Nat, j ≤ k ∧ z = .int .i64 (j : Int) ∧ Blk wr W3.heap.size #[.int .i64 fw, .int .i64 (-9223372036854775808)] 38 ∧ Blk wr W.heap.size (opA o) 27 ∧ Below W.heap.size W wr) (fun z _ => k - (intOf z).toNat)
      case atStart => exact ⟨0, by omega, rfl, hX4, hO4, hw4⟩
      case round =>
        rename_i wr0 _
        obtain ⟨j, hj, rfl, hP, hO, hwr⟩ := hrel
        clear hX4 hO4 hw4
        by_cases cjk : j = k
        · subst cjk
          go_wp2_with fail
          go_ret
          exact ⟨rfl, hwr⟩
        · obtain ⟨m, hm⟩ : ∃ m, ms[j]? = some m := ⟨ms[j]'(by omega), List.getElem?_eq_getElem (by omega)⟩
          have z0 := HR.out _ hwr j m hm
          have hjk : (j : Int) < (k : Int) := by omega
          have hAh := HAh.out m (List.mem_of_getElem? hm)
          have hmJ := HJ.out m (List.mem_of_getElem? hm)
          have y0 : wr.cell? ⟨W.heap.size, 0, none⟩ = some (.int .i64 o.s) := hO.at rfl
          have y1 : wr.cell? ⟨W.heap.size, 1, none⟩ = some (.int .i64 o.k) := hO.at rfl
          have y2 : wr.cell? ⟨W.heap.size, 2, none⟩ = some (.int .i64 o.t) := hO.at rfl
          have y3 : wr.cell? ⟨W.heap.size, 3, none⟩ = some (.int .i64 o.y) := hO.at rfl
          have y4 : wr.cell? ⟨W.heap.size, 4, none⟩ = some (.int .i64 o.v) := hO.at rfl
          obtain ⟨W5, hE5, hX5, b5⟩ := blk1 wr (opA o) 27
          unfold opA at hE5
          have g2 : W5.cell? ⟨W.heap.size, 2, none⟩ = some (.int .i64 o.t) := (hO.keep b5).at rfl
          have g5 : W5.cell? ⟨wr.heap.size, 2, none⟩ = some (.int .i64 o.t) := hX5.at rfl
          have f5 := hX5.frozen 2
          have hmx : J64 (max o.t m) := by have := ho.t; unfold J64 at *; omega
          clear hm
          go_upto_region 25 with fail
          have hX6 : Blk (W5.setCell ⟨wr.heap.size, 2, none⟩ (.int .i64 (max o.t m))) wr.heap.size #[.int .i64 o.s, .int .i64 o.k, .int .i64 (max o.t m), .int .i64 o.y, .int .i64 o.v] 27 := hX5.set 2 _
          have C6 : Chg wr.heap.size W5 (W5.setCell ⟨wr.heap.size, 2, none⟩ (.int .i64 (max o.t m))) := chg_set _ _ _ _
          have hP6 := (hP.keep b5).chg C6 (by have := hP.lt; omega)
          have hO6 := (hO.keep b5).chg C6 (by have := hO.lt; omega)
          have hw6 := ab_chg (ab_trans hwr b5) C6 hwr.size
          clear hE5 hX5 b5 g2 g5 f5 y0 y1 y2 y3 y4 z0 C6 hP hO hwr
          generalize W5.setCell ⟨wr.heap.size, 2, none⟩ (.int .i64 (max o.t m)) = W6 at *
          generalize hmt : max o.t m = mt at *
          have HX6 : Hid (∀ V, Below W6.heap.size W6 V → V.cell? ⟨wr.heap.size, 0, none⟩ = some (.int .i64 o.s) ∧ V.cell? ⟨wr.heap.size, 1, none⟩ = some (.int .i64 o.k) ∧ V.cell? ⟨wr.heap.size, 2, none⟩ = some (.int .i64 mt) ∧ V.cell? ⟨wr.heap.size, 3, none⟩ = some (.int .i64 o.y) ∧ V.cell? ⟨wr.heap.size, 4, none⟩ = some (.int .i64 o.v)) := fun V hb => ⟨(hX6.keep hb).at rfl, (hX6.keep hb).at rfl, (hX6.keep hb).at rfl, (hX6.keep hb).at rfl, (hX6.keep hb).at rfl⟩
          have HP6 : Hid (∀ V, Below W6.heap.size W6 V → V.cell? ⟨W3.heap.size, 0, none⟩ = some (.int .i64 fw) ∧ V.cell? ⟨W3.heap.size, 1, none⟩ = some (.int .i64 (-9223372036854775808))) := fun V hb => ⟨(hP6.keep hb).at rfl, (hP6.keep hb).at rfl⟩
          clear hmt
          refine wp_region_held_drew (S := fun w' => Below W6.heap.size W6 w') (by kernel_rfl) (ab_drew (Below.refl _ _)) (fun hHeld => ?_)
          refine takeH (i := 0) (some 84) rfl rfl (by kernel_rfl) (by kernel_rfl) (by kernel_rfl) (fun _ _ _ h => h) (by rfl) (fun w hSw => by (try dsimp only at hSw); (obtain ⟨q0, q1, q2, q3, q4⟩ := HX6.out _ hSw; go_simp; try rfl)) hHeld ?_
          go_frame
          refine takeH (i := 1) (some 85) rfl rfl (by kernel_rfl) (by kernel_rfl) (by kernel_rfl) (fun _ _ _ h => h) (by rfl) (fun w hSw => by (try dsimp only at hSw); go_simp; try rfl) hHeld ?_
          go_frame
          refine takeH (i := 7) (some 91) rfl rfl (by kernel_rfl) (by kernel_rfl) (by kernel_rfl) (fun _ _ _ h => h) (by rfl) (fun w hSw => by (try dsimp only at hSw); (obtain ⟨q0, q1⟩ := HP6.out _ hSw; go_simp; try rfl)) hHeld ?_
          go_frame
          refine wpAnyH_ready (rs := [2]) (by kernel_rfl) (by simp) (AllReadyH.cons rfl (fun K hK => ?_) AllReadyH.nil)
          rw [if_pos (by rfl)]
          refine bs_iW (some 86) rfl rfl [r] (by simp only [List.map_toArray, List.map_cons, List.map_nil]; rfl) (isl1 _ _) rfl (by decide) fun W7 own7 b7 => ?_
          have hs7 := hHeld.size
          refine hK.out _ _ (ab_trans hHeld b7) (fun hHeld => ?_)
          clear hK K
          go_frame
          have hIs : Is W7 (.slice (some ⟨_, 0, none⟩) 1 1) [r] := (io_of (l := [r]) own7).is
          have hfo : Fit5 ⟨o.s, o.k, mt, o.y, o.v⟩ := ⟨ho.s, ho.k, hmx, ho.y, ho.v⟩
          have HI := rids_is ⟨o.s, o.k, mt, o.y, o.v⟩ _ [r] 1 W7 hIs hfo (fun x hx => by simp at hx; omega) (by omega) (by simp)
          unfold opV opA at HI
          dsimp only at HI
          have hidl : idL mt o.y 1 [r] = [(0, flD mt r, o.y)] := by
            have hm := flM_lt o.y 1 (by omega)
            have e1 : lnN 0 (flM o.y 1) 1 = 0 := by unfold lnN wrap64; omega
            show [(lnN ((0 : Nat) : Int) (flM o.y 1) 1, flD mt r, o.y)] = _
            rw [show ((0 : Nat) : Int) = 0 from rfl, e1]
          rw [hidl] at HI
          clear hidl own7
          refine wpAnyH_ready (rs := [3]) (by kernel_rfl) (by simp) (AllReadyH.cons rfl (fun K hK => ?_) AllReadyH.nil)
          go_simp
          refine HI.mono ?_
          rintro e W8 ⟨v8, rfl, hO8, b8⟩
          show K _ _
          refine hK.out _ _ (ab_trans hHeld b8) (fun hHeld => ?_)
          clear hK K HI
          obtain ⟨g8, c8, rfl⟩ := EO.at0 hO8 (by simp)
          have hR8 := (EO.rw hO8).1
          have u1 : W8.cell? ⟨g8, 1, none⟩ = some (.int .i64 (flD mt r)) := hR8.cell (j := 0) (i := 1) rfl rfl
          have u2 : W8.cell? ⟨g8, 2, none⟩ = some (.int .i64 o.y) := hR8.cell (j := 0) (i := 2) rfl rfl
          refine wpAnyH_ready (rs := [4]) (by kernel_rfl) (by simp) (AllReadyH.cons rfl (fun K hK => ?_) AllReadyH.nil)
          go_simp
          refine hK.out _ _ hHeld (fun hHeld => ?_)
          clear hK K
          try go_frame
          refine wpAnyH_ready (rs := [5]) (by kernel_rfl) (by simp) (AllReadyH.cons rfl (fun K hK => ?_) AllReadyH.nil)
          go_simp
          refine hK.out _ _ hHeld (fun hHeld => ?_)
          clear hK K
          try go_frame
          refine wpAnyH_ready (rs := [6]) (by kernel_rfl) (by simp) (AllReadyH.cons rfl (fun K hK => ?_) AllReadyH.nil)
          go_simp
          refine hK.out _ _ hHeld (fun hHeld => ?_)
          clear hK K
          try go_frame
          refine wpAnyH_ready (rs := [8]) (by kernel_rfl) (by simp) (AllReadyH.cons rfl (fun K hK => ?_) AllReadyH.nil)
          go_simp
          refine (rpless_any _ _ _ _ _).mono ?_
          rintro e W9 ⟨rfl, b9⟩
          rw [hAh]
          show K _ _
          refine hK.out _ _ (ab_trans hHeld b9) (fun hHeld => ?_)
          clear hK K
          refine wpAnyH_done (by kernel_rfl) ?_ _
          have hP9 := hP6.keep hHeld
          have hO9 := hO6.keep hHeld
          have hw9 := ab_trans hw6 hHeld
          go_wp2_with fail
          go_roundw
          case rel => exact ⟨j + 1, by omega, by go_num, hP9, hO9, hw9⟩
          case measure => simp [intOf]; omega
    · obtain ⟨m, hm⟩ : ∃ m, ms[k]? = some m := ⟨ms[k]'(by omega), List.getElem?_eq_getElem (by omega)⟩
      have z0 := HR.out _ hwr k m hm
      have hkn : (k : Int) < (n : Int) := by omega
      have hmJ := HJ.out m (List.mem_of_getElem? hm)
      have HCl := baclosed_at 0 wr hB (by show 0 < ([lstP] : List (Int × Int)).length; simp)
      have k2 := cl_lm_no (r := r) (show k < ms.length by omega)
      rw [clsP_no k2, k2] at HCl
      dsimp only at HCl
      have HSt : Hid (fdZ (clS ms r k) k 1 [lstP] [clO m] = clS ms r (k + 1)) := cl_step hm
      have HEr : Hid (tkE (fdR (clS ms r k) k [lstP] [clO m]) = 0) := by show _ = _; rw [cl_R hm]; rfl
      have HFm : Hid (fdF (clS ms r k) (k : Int) 1 1 [lstP] [clO m]) := cl_form (by omega)
      have HFl : Hid ((clS ms r k).fl[k]? = some newFl) := cl_fl (by omega)
      clear k2 hm
      go_upto_region 14 with (first
        | (go_at_call 22; refine HCl.mono ?_; rintro e W3 ⟨rfl, b3⟩; obtain ⟨Z3, hE3, hZ3, hz3⟩ := blk1 W3 #[.int .i64 0, .int .i64 0] 38)
        | (refine st_blk rfl rfl hZ3 rfl rfl info_plc rfl (by simp [Value.oneCell']) ?_; intro W4 hX4 C4))
      have b4 : Below wr.heap.size wr W4 := ab_chg (ab_trans b3 hz3) C4 b3.size
      have hB4 := hB.keep b4
      have hO4 := hO.keep b4
      have hw4 := ab_trans hwr b4
      clear HCl hE3 hZ3 hz3 b3 C4 hX4 hB hO hwr b4 z0
      have hzK : ∀ x, bkB K x → x < W4.heap.size := fun x hx => (hB4.bks hx).2
      go_wp2_with (first
        | (go_at_call 10; refine (rleast_any _).mono ?_; rintro e W5 ⟨rfl, b5⟩
           obtain ⟨W6, hE6, hX6, b6⟩ := blk1 W5 #[.int .i64 (-9223372036854775808), .int .i64 (-9223372036854775808)] 38
           obtain ⟨W7, hE7, hX7, b7⟩ := blk1 W6 #[.int .i64 1, .int .i64 2, .int .i64 m, .int .i64 0, .int .i64 0] 27
           have b47 := ab_trans (ab_trans b5 b6) b7
           have HF := bafeed_ok k 1 1 (.slice (some ⟨W5.heap.size, 0, none⟩) 1 1) (.slice (some ⟨W6.heap.size, 0, none⟩) 1 1) [lstP] [clO m] W7 (hB4.keep b47)
             (stay_young (er_blk (hX6.keep b7) rfl rfl (by omega)) (fun x hx => Nat.lt_of_lt_of_le (hzK x hx) b5.size)) (stay_young (er_blk hX7 rfl rfl (by omega)) (fun x hx => Nat.lt_of_lt_of_le (hzK x hx) (Nat.le_trans b5.size b6.size))) HFm.out HFl.out rfl
             (fun p hp => by simp at hp; subst hp; unfold lstP J64; dsimp only; omega) (fun o' ho' => by simp at ho'; subst ho'; unfold clO; constructor <;> (first | exact hmJ | (unfold J64; dsimp only; omega))) (by unfold J64; omega)
           rw [HSt.out, HEr.out, errV_ok rfl] at HF)
        | (go_at_call 11; refine HF.mono ?_; rintro e W8 ⟨rfl, hB8, hF8⟩))
      have hO8 : Blk W8 W.heap.size (opA o) 27 := (hO4.keep b47).frm hF8 (fun hx => by have h1 := hge _ hx; omega)
      have hw8 : Below W.heap.size W W8 := (ab_trans hw4 b47).trans (hF8.below (ab_trans hw4 b47).size (fun x hx => Nat.le_trans hw.size (hge x hx)))
      go_roundw
      case rel => exact ⟨k + 1, by omega, by go_num, hB8, hO8, hw8⟩
      case measure => simp [intOf]; omega
theorem walk {W : World} (v : Value) (ms : List Int) (hv : Is W v ms) (hb : In64 ms) (c : Nat → Int) (hc : ∀ j, j < 5 → (Lit.int ((fun _ => IntKind.i64) j) (c j)).wf = true) (r : Int) (hr : -9223372036854775808 ≤ r ∧ r ≤ 9223372036854775807) :
    Calls Try.prog 5 #[v, .agg ((List.range 5).map fun j => Value.int ((fun _ => IntKind.i64) j) (c j)).toArray, .int .i64 r] W fun e w' => e = .returned (.bool true) ∧ Below W.heap.size W w' :=
  cl_walk v ms hv hb ⟨c 0, c 1, c 2, c 3, c 4⟩ ⟨bounds_i64 (hc 0 (by omega)), bounds_i64 (hc 1 (by omega)), bounds_i64 (hc 2 (by omega)), bounds_i64 (hc 3 (by omega)), bounds_i64 (hc 4 (by omega))⟩ r hr
theorem own : ownKnob Try.prog.godebug = none := by kernel_rfl
theorem laidOut : laidOutB Try.prog = true := by kernel_rfl

set_option maxRecDepth 100000 in
theorem lifted (os : Os) (started : os.Started) (H : Type) (enc : TypeId × Value → H) :
    ReturnsInHanded {} Try.checked os 5 .any (Rows.basinClosesSpec.pre6 enc Try.prog Try.f5 Rows.basinClosesRow.domain false) (Rows.basinClosesSpec.post enc Try.prog Try.f5 false true false false) := by
  refine returnsInHanded_of_change (C := Try.checked) own started (by kernel_rfl) Try.func5
    (ChangeSpec.witness6 (enc := enc) (C := Try.checked) false ⟨#[], #[.slice none 0 0, .agg #[.int .i64 0, .int .i64 0, .int .i64 0, .int .i64 0, .int .i64 0], .int .i64 0], []⟩ 8 (by kernel_rfl) (by kernel_rfl) (by kernel_rfl) (by kernel_rfl)) ?_
  intro W base args ds gs before hval0 hW hcnd _
  have hval : ∀ (j : Nat) t v, Try.f5.params[j]? = some t → args[j]? = some v → Value.okWide Try.prog W .any base t v := hval0
  have hW' := hW
  obtain ⟨p, q, hA0, hV, rfl, hfz, hnd⟩ := hW
  have hA : DataW.TrodAll enc Try.prog W 0 (fun _ => true) true Try.f5.params.toList args.toList ds p := hA0
  rw [Try.params5] at hA hval
  obtain ⟨v0, vs0, d0, ds0, p0, q0, hargs, rfl, rfl, h0, r0⟩ := trodAll_cons hA
  obtain ⟨v1, vs1, d1, ds1, p1, q1, rfl, rfl, rfl, h1, r1⟩ := trodAll_cons r0
  obtain ⟨v2, vs2, d2, ds2, p2, q2, rfl, rfl, rfl, h2, r2⟩ := trodAll_cons r1
  obtain ⟨rfl, rfl, rfl⟩ := trodAll_nil r2
  obtain rfl : args = #[v0, v1, v2] := by cases args; simp_all
  obtain ⟨rfl, rfl⟩ := trodVars_none hV
  have k0 := h0
  have lt0 : ∀ x ∈ p0, x.block < W.heap.size := by obtain ⟨m, hm⟩ := k0; exact DataW.trod_lt m _ _ _ hm
  have k1 := h1
  have lt1 : ∀ x ∈ p1, x.block < W.heap.size := by obtain ⟨m, hm⟩ := k1; exact DataW.trod_lt m _ _ _ hm
  have k2 := h2
  have lt2 : ∀ x ∈ p2, x.block < W.heap.size := by obtain ⟨m, hm⟩ := k2; exact DataW.trod_lt m _ _ _ hm
  obtain ⟨l0_, S0_, B0_⟩ := open_nums (hval 0 23 v0 rfl rfl) h0
  obtain ⟨c1, rfl, hw1⟩ := open_flat (n := 5) (D := 8) (fun _ => .i64) Try.underlying27 rfl (by kernel_rfl) (kinds_of (by kernel_rfl)) (hval 1 27 v1 rfl rfl) h1
  obtain ⟨a2, rfl, rfl, rfl, w2⟩ := open_int Try.underlying3 (hval 2 3 v2 rfl rfl) h2
  clear hA0 hval0
  refine (walk v0 l0_ S0_ B0_ c1 hw1 a2 (bounds_i64 w2)).mono fun e W' ⟨he, bel⟩ => ?_
  subst he
  exact ⟨_, rfl, _, _, _, [], _, [], hW', trodAll_mk1 (shut_bool Try.underlying4 _), (trodAll_cons_mk (Below.trod laidOut (by kernel_rfl) (of_decide_eq_true (by kernel_rfl)) k0 bel lt0) (trodAll_cons_mk (Below.trod laidOut (by kernel_rfl) (of_decide_eq_true (by kernel_rfl)) k1 bel lt1) (trodAll_cons_mk (Below.trod laidOut (by kernel_rfl) (of_decide_eq_true (by kernel_rfl)) k2 bel lt2) trodAll_mk0))), rfl, bel.frame _, fun h => by cases h⟩

theorem over : Rows.basinClosesRow.holds Try.pinned (OpenSpec.ofChange Rows.basinClosesSpec) :=
  OpenClaim.holds_of_wide 5 Try.f5 rfl rfl rfl rfl rfl rfl rfl ⟨rfl, rfl, rfl, rfl, rfl⟩ rfl rfl rfl rfl rfl (by kernel_rfl) Try.func5 (by kernel_rfl)
    (of_decide_eq_true (by kernel_rfl)) (by unfold Func.isWrapper; first | (rw [if_pos (by decide +kernel)]; kernel_rfl) | (rw [if_neg (by decide +kernel)]; exact ⟨rfl, rfl⟩))
    (fun os started H enc _ => lifted os started H enc)

theorem proved : Rows.BasinClosesSaid := over
end Go.Proofs.Ytikopgdalnolaaa.basinCloses
namespace Go.Proofs.Ytikopgdalnolaaa
theorem basinCloses_holds : Rows.BasinClosesSaid := basinCloses.proved
#print axioms basinCloses_holds
end Go.Proofs.Ytikopgdalnolaaa
