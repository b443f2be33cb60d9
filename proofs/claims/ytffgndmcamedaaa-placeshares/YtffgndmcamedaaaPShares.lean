/-
  Two samples share a cell just if they have one key and lie in one window: estuarylaw03.PlaceShares returns true for every input; no condition.
-/
import Derived.Test.YtffgndmcamedaaaAlive3
import Derived.Test.YtffgndmcamedaaaFlat
import Derived.ProofKit
import Derived.OpenShut
import Derived.ChangeOld
import Derived.Below
import Derived.Lib.SmallJoins
namespace Go.Proofs.Ytffgndmcamedaaa.placeShares
open Go.ChangeShapes Go.WideShapes Go.ChangeAt Go.RowKit Go.Joins
set_option linter.unusedVariables false
theorem fold (p : Prop) [Decidable p] (b : Bool) (w : World) : (if p then Result.ok b w else Result.ok false w) = Result.ok (decide p && b) w := by
  by_cases h : p <;> simp [h]
attribute [local go_sem] fold

theorem info_op : (Try.prog.info? 31).map (·.size) = some 5 := by kernel_rfl
theorem ldop {o : Oper} {ρ : Operand → Value} {x : Operand} {b : Nat} {c0 c1 c2 c3 c4 : Value} {t : TypeId} {w : World} (ho : o.op = .load 31 x) (hx : ρ x = .pointer (some ⟨b, 0, none⟩)) (hB : Blk w b #[c0, c1, c2, c3, c4] t) :
    (execOp ρ o).run Try.prog w = .ok (.value (.agg #[c0, c1, c2, c3, c4])) w := by
  unfold execOp
  simp only [ho, hx, Instr.loadAt, Instr.sureAddr, Sem.run_bind, Sem.run_pure, Result.andThen_ok, run_loadVar_row w b t 31 #[c0, c1, c2, c3, c4] (0, 0) _ hB Try.underlying31 rfl info_op]
/-- A slice of one number, at one operation. -/
theorem bs1W {o : Oper} {a : Act} {w : World} {K : Act → World → Prop} {Q : Exit → Act → World → Prop} (d : Option Tmp) (hd : o.dst = d) {parts : Array (Nat × Operand)} (ho : o.op = .buildSlice 32 1 parts) (x : Int)
    (hl : parts.map (fun (i, x) => (i, a.eval x)) = #[(0, .int .i64 x)])
    (h : ∀ W', IRow W' w.heap.size 0 [x] → w.heap.size < W'.heap.size → Below w.heap.size w W' → K (a.put d (.slice (some ⟨w.heap.size, 0, none⟩) 1 1)) W') : o.wp Try.prog a w K Q := by
  subst hd
  unfold Oper.wp execOp
  simp only [ho, Sem.run_bind, hl, isl1, Result.andThen_ok]
  refine h _ ?_ (by simp) ((Below.refl _ _).alloc (Nat.le_refl _) _)
  intro j y hy
  match j with
  | 0 => simp at hy; subst hy; simp [go_sem, ints]
  | n + 1 => simp at hy
/-- The one cell of an operation. -/
theorem ids1 (s0 s1 t key s4 r sh : Int) (g : Nat) (w : World) (hg : g < w.heap.size) (hr : IRow w g 0 [r]) (ht : -9223372036854775808 ≤ t ∧ t ≤ 9223372036854775807) (hk : -9223372036854775808 ≤ key ∧ key ≤ 9223372036854775807) (h1 : sh ≤ 9223372036854775807) (h2 : r ≤ 9223372036854775807) :
    Calls Try.prog 18 #[Opv s0 s1 t key s4, .slice (some ⟨g, 0, none⟩) 1 1, .int .i64 sh] w fun e w' => ∃ g' c, e = .returned (.slice (some ⟨g', 0, none⟩) 1 c) ∧ g' < w'.heap.size ∧ Row3 w' g' 0 [idAt t key sh 0 r] ∧ Below w.heap.size w w' := by
  refine (ids_any s0 s1 t key s4 _ g 0 1 1 [r] sh w rfl (by omega) (fun _ => rfl) (fun _ => hg) hr ht.1 ht.2 hk.1 hk.2 h1 (fun j x h => by have := List.mem_of_getElem? h; simp at this; omega)).mono ?_
  rintro e w' ⟨v, rfl, hown, hv, hb⟩
  obtain ⟨-, q, g', cap, rfl, hq, hg', -, -, -, -, hr', -⟩ := own_row3 hown
  cases hq (by omega)
  exact ⟨g', cap, rfl, hg' (by omega), hr', hb⟩

set_option maxRecDepth 100000 in
set_option maxHeartbeats 1000000 in
theorem walk5 (s0 s1 t key s4 : Int) (ht : -9223372036854775808 ≤ t ∧ t ≤ 9223372036854775807) (hk : -9223372036854775808 ≤ key ∧ key ≤ 9223372036854775807)
    (u0 u1 t' key' u4 : Int) (ht' : -9223372036854775808 ≤ t' ∧ t' ≤ 9223372036854775807) (hk' : -9223372036854775808 ≤ key' ∧ key' ≤ 9223372036854775807) (r : Int) (hr : -9223372036854775808 ≤ r ∧ r ≤ 9223372036854775807) (w : World) :
    Calls Try.prog 6 #[Opv s0 s1 t key s4, Opv u0 u1 t' key' u4, .int .i64 r] w fun e w' => e = .returned (.bool true) ∧ Below w.heap.size w w' := by
  go_enter Try.func6, Try.ntmps6
  go_upto_region 1 with fail
  obtain ⟨A, hAe, hO, hU, hw⟩ := blk2 w #[.int .i64 s0, .int .i64 s1, .int .i64 t, .int .i64 key, .int .i64 s4] #[.int .i64 u0, .int .i64 u1, .int .i64 t', .int .i64 key', .int .i64 u4] 31 31
  rw [hAe]
  clear hAe
  go_upto_region 3 with (go_at_call 9; refine (alive3_any _).mono ?_; rintro e W1 ⟨rfl, hb⟩)
  have hO1 := hO.keep hb
  have hU1 := hU.keep hb
  have hw1 := ab_trans hw hb
  clear hO hU hw hb
  by_cases g : r < 1
  · go_wp2_with fail
    go_ret
    exact ⟨rfl, hw1⟩
  · go_upto_region 5 with fail
    go_cut [7, 8] from 13 to 20 (fun v1 v2 wc => ∃ g1 c1 g2 c2, v1 = .slice (some ⟨g1, 0, none⟩) 1 c1 ∧ v2 = .slice (some ⟨g2, 0, none⟩) 1 c2 ∧ g1 < wc.heap.size ∧ g2 < wc.heap.size ∧ Row3 wc g1 0 [idAt t key 3 0 r] ∧ Row3 wc g2 0 [idAt t' key' 3 0 r] ∧ Below W1.heap.size W1 wc)
    case first =>
      have hz1 := hO1.lt
      have hz2 := hU1.lt
      refine wp_region_held_drew (S := fun w' => Blk w' w.heap.size #[.int .i64 s0, .int .i64 s1, .int .i64 t, .int .i64 key, .int .i64 s4] 31 ∧ Blk w' (w.heap.size + 1) #[.int .i64 u0, .int .i64 u1, .int .i64 t', .int .i64 key', .int .i64 u4] 31 ∧ Below W1.heap.size W1 w') (by kernel_rfl) ⟨hO1.drew, hU1.drew, ab_drew (Below.refl _ _)⟩ (fun hHeld => ?_)
      refine takeH (i := 0) (some 13) rfl rfl (by kernel_rfl) (by kernel_rfl) (by kernel_rfl) (fun _ _ _ h => h) (by rfl) (fun w hSw => by (try dsimp only at hSw); exact ldop rfl rfl hSw.1) hHeld ?_
      go_frame
      refine takeH (i := 1) (some 14) rfl rfl (by kernel_rfl) (by kernel_rfl) (by kernel_rfl) (fun _ _ _ h => h) (by rfl) (fun w hSw => by (try dsimp only at hSw); go_simp; try rfl) hHeld ?_
      go_frame
      refine takeH (i := 4) (some 17) rfl rfl (by kernel_rfl) (by kernel_rfl) (by kernel_rfl) (fun _ _ _ h => h) (by rfl) (fun w hSw => by (try dsimp only at hSw); exact ldop rfl rfl hSw.2.1) hHeld ?_
      go_frame
      refine takeH (i := 5) (some 18) rfl rfl (by kernel_rfl) (by kernel_rfl) (by kernel_rfl) (fun _ _ _ h => h) (by rfl) (fun w hSw => by (try dsimp only at hSw); go_simp; try rfl) hHeld ?_
      go_frame
      refine wpAnyH_ready (rs := [2, 6]) (by kernel_rfl) (by simp) ?_
      refine AllReadyH.cons rfl (fun K hK => ?_) (AllReadyH.cons rfl (fun K hK => ?_) AllReadyH.nil)
      · rw [if_pos (by rfl)]
        refine bs1W (some 15) rfl rfl r (by simp only [List.map_toArray, List.map_cons, List.map_nil]; rfl) fun V1 r1 g1 bn => ?_
        refine hK.out _ _ ⟨hHeld.1.keep bn, hHeld.2.1.keep bn, ab_trans hHeld.2.2 bn⟩ (fun hHeld => ?_)
        clear hK K bn
        go_frame
        refine wpAnyH_ready (rs := [3, 6]) (by kernel_rfl) (by simp) ?_
        refine AllReadyH.cons rfl (fun K hK => ?_) (AllReadyH.cons rfl (fun K hK => ?_) AllReadyH.nil)
        · go_simp
          refine (ids1 _ _ t key _ r 3 _ _ g1 r1 ht hk (by omega) hr.2).mono ?_
          rintro e V2 ⟨g2, c2, rfl, h2, q2, bn⟩
          show K _ _
          refine hK.out _ _ ⟨hHeld.1.keep bn, hHeld.2.1.keep bn, ab_trans hHeld.2.2 bn⟩ (fun hHeld => ?_)
          clear hK K bn
          refine wpAnyH_ready (rs := [6]) (by kernel_rfl) (by simp) (AllReadyH.cons rfl (fun K hK => ?_) AllReadyH.nil)
          rw [if_pos (by rfl)]
          refine bs1W (some 19) rfl rfl r (by simp only [List.map_toArray, List.map_cons, List.map_nil]; rfl) fun V3 r3 g3 bn => ?_
          have q3 := row3_keep q2 (fun _ => h2) bn
          have h3 := Nat.lt_of_lt_of_le h2 bn.size
          refine hK.out _ _ ⟨hHeld.1.keep bn, hHeld.2.1.keep bn, ab_trans hHeld.2.2 bn⟩ (fun hHeld => ?_)
          clear hK K bn
          go_frame
          refine wpAnyH_ready (rs := [7]) (by kernel_rfl) (by simp) (AllReadyH.cons rfl (fun K hK => ?_) AllReadyH.nil)
          go_simp
          refine (ids1 _ _ t' key' _ r 3 _ _ g3 r3 ht' hk' (by omega) hr.2).mono ?_
          rintro e V4 ⟨g4, c4, rfl, h4, q4, bn⟩
          show K _ _
          have q5 := row3_keep q3 (fun _ => h3) bn
          have h5 := Nat.lt_of_lt_of_le h3 bn.size
          refine hK.out _ _ ⟨hHeld.1.keep bn, hHeld.2.1.keep bn, ab_trans hHeld.2.2 bn⟩ (fun hHeld => ?_)
          clear hK K bn
          refine takeH (i := 8) (some 7) rfl rfl (by kernel_rfl) (by kernel_rfl) (by kernel_rfl) (fun _ _ _ h => h) (by rfl) (fun w hSw => by (try dsimp only at hSw); go_simp; try rfl) hHeld ?_
          go_frame
          refine takeH (i := 9) (some 8) rfl rfl (by kernel_rfl) (by kernel_rfl) (by kernel_rfl) (fun _ _ _ h => h) (by rfl) (fun w hSw => by (try dsimp only at hSw); go_simp; try rfl) hHeld ?_
          go_frame
          refine wpAnyH_done (by kernel_rfl) ?_ _
          go_wp2_with fail
          go_meet
          case rel => exact ⟨_, _, _, _, rfl, rfl, h5, h4, q5, q4, hHeld.2.2⟩
        · rw [if_pos (by rfl)]
          refine bs1W (some 19) rfl rfl r (by simp only [List.map_toArray, List.map_cons, List.map_nil]; rfl) fun V3 r3 g3 bn => ?_
          have r2 := irow_keep r1 (fun _ => g1) bn
          have g2 := Nat.lt_of_lt_of_le g1 bn.size
          refine hK.out _ _ ⟨hHeld.1.keep bn, hHeld.2.1.keep bn, ab_trans hHeld.2.2 bn⟩ (fun hHeld => ?_)
          clear hK K bn
          go_frame
          refine wpAnyH_ready (rs := [3]) (by kernel_rfl) (by simp) (AllReadyH.cons rfl (fun K hK => ?_) AllReadyH.nil)
          go_simp
          refine (ids1 _ _ t key _ r 3 _ _ g2 r2 ht hk (by omega) hr.2).mono ?_
          rintro e V2 ⟨k2, c2, rfl, h2, q2, bn⟩
          show K _ _
          have r4 := irow_keep r3 (fun _ => g3) bn
          have g4 := Nat.lt_of_lt_of_le g3 bn.size
          refine hK.out _ _ ⟨hHeld.1.keep bn, hHeld.2.1.keep bn, ab_trans hHeld.2.2 bn⟩ (fun hHeld => ?_)
          clear hK K bn
          refine wpAnyH_ready (rs := [7]) (by kernel_rfl) (by simp) (AllReadyH.cons rfl (fun K hK => ?_) AllReadyH.nil)
          go_simp
          refine (ids1 _ _ t' key' _ r 3 _ _ g4 r4 ht' hk' (by omega) hr.2).mono ?_
          rintro e V4 ⟨k4, c4, rfl, h4, q4, bn⟩
          show K _ _
          have q5 := row3_keep q2 (fun _ => h2) bn
          have h5 := Nat.lt_of_lt_of_le h2 bn.size
          refine hK.out _ _ ⟨hHeld.1.keep bn, hHeld.2.1.keep bn, ab_trans hHeld.2.2 bn⟩ (fun hHeld => ?_)
          clear hK K bn
          refine takeH (i := 8) (some 7) rfl rfl (by kernel_rfl) (by kernel_rfl) (by kernel_rfl) (fun _ _ _ h => h) (by rfl) (fun w hSw => by (try dsimp only at hSw); go_simp; try rfl) hHeld ?_
          go_frame
          refine takeH (i := 9) (some 8) rfl rfl (by kernel_rfl) (by kernel_rfl) (by kernel_rfl) (fun _ _ _ h => h) (by rfl) (fun w hSw => by (try dsimp only at hSw); go_simp; try rfl) hHeld ?_
          go_frame
          refine wpAnyH_done (by kernel_rfl) ?_ _
          go_wp2_with fail
          go_meet
          case rel => exact ⟨_, _, _, _, rfl, rfl, h5, h4, q5, q4, hHeld.2.2⟩
      · rw [if_pos (by rfl)]
        refine bs1W (some 19) rfl rfl r (by simp only [List.map_toArray, List.map_cons, List.map_nil]; rfl) fun V1 r1 g1 bn => ?_
        refine hK.out _ _ ⟨hHeld.1.keep bn, hHeld.2.1.keep bn, ab_trans hHeld.2.2 bn⟩ (fun hHeld => ?_)
        clear hK K bn
        go_frame
        refine wpAnyH_ready (rs := [2]) (by kernel_rfl) (by simp) (AllReadyH.cons rfl (fun K hK => ?_) AllReadyH.nil)
        rw [if_pos (by rfl)]
        refine bs1W (some 15) rfl rfl r (by simp only [List.map_toArray, List.map_cons, List.map_nil]; rfl) fun V3 r3 g3 bn => ?_
        have r2 := irow_keep r1 (fun _ => g1) bn
        have g2 := Nat.lt_of_lt_of_le g1 bn.size
        refine hK.out _ _ ⟨hHeld.1.keep bn, hHeld.2.1.keep bn, ab_trans hHeld.2.2 bn⟩ (fun hHeld => ?_)
        clear hK K bn
        go_frame
        refine wpAnyH_ready (rs := [3]) (by kernel_rfl) (by simp) (AllReadyH.cons rfl (fun K hK => ?_) AllReadyH.nil)
        go_simp
        refine (ids1 _ _ t key _ r 3 _ _ g3 r3 ht hk (by omega) hr.2).mono ?_
        rintro e V2 ⟨k2, c2, rfl, h2, q2, bn⟩
        show K _ _
        have r4 := irow_keep r2 (fun _ => g2) bn
        have g4 := Nat.lt_of_lt_of_le g2 bn.size
        refine hK.out _ _ ⟨hHeld.1.keep bn, hHeld.2.1.keep bn, ab_trans hHeld.2.2 bn⟩ (fun hHeld => ?_)
        clear hK K bn
        refine wpAnyH_ready (rs := [7]) (by kernel_rfl) (by simp) (AllReadyH.cons rfl (fun K hK => ?_) AllReadyH.nil)
        go_simp
        refine (ids1 _ _ t' key' _ r 3 _ _ g4 r4 ht' hk' (by omega) hr.2).mono ?_
        rintro e V4 ⟨k4, c4, rfl, h4, q4, bn⟩
        show K _ _
        have q5 := row3_keep q2 (fun _ => h2) bn
        have h5 := Nat.lt_of_lt_of_le h2 bn.size
        refine hK.out _ _ ⟨hHeld.1.keep bn, hHeld.2.1.keep bn, ab_trans hHeld.2.2 bn⟩ (fun hHeld => ?_)
        clear hK K bn
        refine takeH (i := 8) (some 7) rfl rfl (by kernel_rfl) (by kernel_rfl) (by kernel_rfl) (fun _ _ _ h => h) (by rfl) (fun w hSw => by (try dsimp only at hSw); go_simp; try rfl) hHeld ?_
        go_frame
        refine takeH (i := 9) (some 8) rfl rfl (by kernel_rfl) (by kernel_rfl) (by kernel_rfl) (fun _ _ _ h => h) (by rfl) (fun w hSw => by (try dsimp only at hSw); go_simp; try rfl) hHeld ?_
        go_frame
        refine wpAnyH_done (by kernel_rfl) ?_ _
        go_wp2_with fail
        go_meet
        case rel => exact ⟨_, _, _, _, rfl, rfl, h5, h4, q5, q4, hHeld.2.2⟩
    case rest =>
      obtain ⟨g1, c1, g2, c2, rfl, rfl, hg1, hg2, hq1, hq2, hw2⟩ := hcut
      have hO2 := hO1.keep hw2
      have hU2 := hU1.keep hw2
      have hw3 := ab_trans hw1 hw2
      obtain ⟨y0, y1, y2⟩ := hq1 0 _ rfl
      obtain ⟨e0, e1, e2⟩ := hq2 0 _ rfl
      have HL1 : (idAt t key 3 0 r).1 = flM key 3 ∧ 0 ≤ flM key 3 ∧ flM key 3 < 3 := by
        have h0 : flM key 3 = key % 3 := by unfold flM; rw [if_neg (by omega)]
        have h1 : (idAt t key 3 0 r).1 = lnN 0 (flM key 3) 3 := rfl
        rw [h1, h0]; unfold lnN wrap64; omega
      have HL2 : (idAt t' key' 3 0 r).1 = flM key' 3 := by
        have h0 : flM key' 3 = key' % 3 := by unfold flM; rw [if_neg (by omega)]
        have h1 : (idAt t' key' 3 0 r).1 = lnN 0 (flM key' 3) 3 := rfl
        rw [h1, h0]; unfold lnN wrap64; omega
      have j1 : (idAt t key 3 0 r).2.1 = flD t r := rfl
      have j2 : (idAt t key 3 0 r).2.2 = key := rfl
      have j3 : (idAt t' key' 3 0 r).2.1 = flD t' r := rfl
      have j4 : (idAt t' key' 3 0 r).2.2 = key' := rfl
      rw [HL1.1] at y0
      rw [j1] at y1
      rw [j2] at y2
      rw [HL2] at e0
      rw [j3] at e1
      rw [j4] at e2
      rw [Nat.zero_mul] at y0 y1 y2 e0 e1 e2
      have hL := HL1.2
      have HD : Hid (key = key' → flM key 3 = flM key' 3) := fun h => by rw [h]
      clear HL1 HL2 j1 j2 j3 j4 hO1 hU1 hw1 hw2 hq1 hq2
      obtain ⟨-, -, z2, z3, -⟩ := hO2.five
      obtain ⟨-, -, z4, z5, -⟩ := hU2.five
      have X0 := cls_cell y0 hg1
      have X1 := cls_cell y1 hg1
      have X2 := cls_cell y2 hg1
      have X3 := cls_cell e0 hg2
      have X4 := cls_cell e1 hg2
      have X5 := cls_cell e2 hg2
      have X6 := cls_cell z2 hO2.lt
      have X7 := cls_cell z3 hO2.lt
      have X8 := cls_cell z4 hU2.lt
      have X9 := cls_cell z5 hU2.lt
      clear y0 y1 y2 e0 e1 e2 z2 z3 z4 z5 hO2 hU2
      generalize flM key 3 = L at *
      generalize flM key' 3 = L' at *
      go_upto_region 8 with fail
      have l0 : decide (0 ≤ L) = true := decide_eq_true hL.1
      have l1 : decide (L < 3) = true := decide_eq_true hL.2
      by_cases k1 : key = key'
      · obtain rfl := HD.out k1
        subst k1
        by_cases k2 : flD t r = flD t' r
        · refine wp_region_below (by kernel_rfl) (by kernel_rfl) ?_
          have HZ := cls_some wc
          repeat (go_big_quiet_step (first
            | (go_at_call 19; exact calls_same (rdiv_any _ _ _ ht.1 ht.2 hr.2))
            | (go_at_call 19; exact calls_same (rdiv_any _ _ _ ht'.1 ht'.2 hr.2))))
          refine wpQuiet_nil ?_
          rintro _ ⟨x, rfl⟩
          go_wp2_with fail
          go_ret
          exact ⟨rfl, ab_trans hw3 x.prop⟩
        · have k3 : (flD t r == flD t' r) = false := by simpa using k2
          have k4 : decide (flD t r = flD t' r) = false := decide_eq_false k2
          refine wp_region_below (by kernel_rfl) (by kernel_rfl) ?_
          have HZ := cls_some wc
          repeat (go_big_quiet_step (first
            | (go_at_call 19; exact calls_same (rdiv_any _ _ _ ht.1 ht.2 hr.2))
            | (go_at_call 19; exact calls_same (rdiv_any _ _ _ ht'.1 ht'.2 hr.2))))
          refine wpQuiet_nil ?_
          rintro _ ⟨x, rfl⟩
          go_wp2_with fail
          go_ret
          exact ⟨rfl, ab_trans hw3 x.prop⟩
      · have k3 : (key == key') = false := by simpa using k1
        have k4 : decide (key = key') = false := decide_eq_false k1
        refine wp_region_below (by kernel_rfl) (by kernel_rfl) ?_
        have HZ := cls_some wc
        repeat (go_big_quiet_step (first
          | (go_at_call 19; exact calls_same (rdiv_any _ _ _ ht.1 ht.2 hr.2))
          | (go_at_call 19; exact calls_same (rdiv_any _ _ _ ht'.1 ht'.2 hr.2))))
        refine wpQuiet_nil ?_
        rintro _ ⟨x, rfl⟩
        go_wp2_with fail
        go_ret
        exact ⟨rfl, ab_trans hw3 x.prop⟩
theorem walk (c : Nat → Int) (hc : ∀ j, j < 5 → (Lit.int ((fun _ => IntKind.i64) j) (c j)).wf = true) (d : Nat → Int) (hd : ∀ j, j < 5 → (Lit.int ((fun _ => IntKind.i64) j) (d j)).wf = true) (r : Int) (hr : -9223372036854775808 ≤ r ∧ r ≤ 9223372036854775807) (w : World) :
    Calls Try.prog 6 #[.agg ((List.range 5).map fun j => Value.int ((fun _ => IntKind.i64) j) (c j)).toArray, .agg ((List.range 5).map fun j => Value.int ((fun _ => IntKind.i64) j) (d j)).toArray, .int .i64 r] w fun e w' => e = .returned (.bool true) ∧ Below w.heap.size w w' :=
  walk5 (c 0) (c 1) (c 2) (c 3) (c 4) (bounds_i64 (hc 2 (by omega))) (bounds_i64 (hc 3 (by omega))) (d 0) (d 1) (d 2) (d 3) (d 4) (bounds_i64 (hd 2 (by omega))) (bounds_i64 (hd 3 (by omega))) r hr w

theorem own : ownKnob Try.prog.godebug = none := by kernel_rfl
theorem laidOut : laidOutB Try.prog = true := by kernel_rfl

set_option maxRecDepth 100000 in
theorem lifted (os : Os) (started : os.Started) (H : Type) (enc : TypeId × Value → H) :
    ReturnsInHanded {} Try.checked os 6 .any (Rows.placeSharesSpec.pre6 enc Try.prog Try.f6 Rows.placeSharesRow.domain false) (Rows.placeSharesSpec.post enc Try.prog Try.f6 false true false false) := by
  refine returnsInHanded_of_change (C := Try.checked) own started (by kernel_rfl) Try.func6
    (ChangeSpec.witness6 (enc := enc) (C := Try.checked) false ⟨#[], #[.agg #[.int .i64 0, .int .i64 0, .int .i64 0, .int .i64 0, .int .i64 0], .agg #[.int .i64 0, .int .i64 0, .int .i64 0, .int .i64 0, .int .i64 0], .int .i64 0], []⟩ 8 (by kernel_rfl) (by kernel_rfl) (by kernel_rfl) (by kernel_rfl)) ?_
  intro W base args ds gs before hval0 hW hcnd _
  have hval : ∀ (j : Nat) t v, Try.f6.params[j]? = some t → args[j]? = some v → Value.okWide Try.prog W .any base t v := hval0
  have hW' := hW
  obtain ⟨p, q, hA0, hV, rfl, hfz, hnd⟩ := hW
  have hA : DataW.TrodAll enc Try.prog W 0 (fun _ => true) true Try.f6.params.toList args.toList ds p := hA0
  rw [Try.params6] at hA hval
  obtain ⟨v0, vs0, d0, ds0, p0, q0, hargs, rfl, rfl, h0, r0⟩ := trodAll_cons hA
  obtain ⟨v1, vs1, d1, ds1, p1, q1, rfl, rfl, rfl, h1, r1⟩ := trodAll_cons r0
  obtain ⟨v2, vs2, d2, ds2, p2, q2, rfl, rfl, rfl, h2, r2⟩ := trodAll_cons r1
  obtain ⟨rfl, rfl, rfl⟩ := trodAll_nil r2
  obtain rfl : args = #[v0, v1, v2] := by cases args; simp_all
  obtain ⟨rfl, rfl⟩ := trodVars_none hV
  have k0 := h0
  have lt0 : ∀ x ∈ p0, x.block < W.heap.size := by obtain ⟨m, hm⟩ := k0; exact DataW.trod_lt m _ _ _ hm
  have k1 := h1
  have lt1 : ∀ x ∈ p1, x.block < W.heap.size := by obtain ⟨m, hm⟩ := k1; exact DataW.trod_lt m _ _ _ hm
  have k2 := h2
  have lt2 : ∀ x ∈ p2, x.block < W.heap.size := by obtain ⟨m, hm⟩ := k2; exact DataW.trod_lt m _ _ _ hm
  obtain ⟨c0, rfl, hw0⟩ := open_flat (n := 5) (D := 8) (fun _ => .i64) Try.underlying31 rfl (by kernel_rfl) (kinds_of (by kernel_rfl)) (hval 0 31 v0 rfl rfl) h0
  obtain ⟨c1, rfl, hw1⟩ := open_flat (n := 5) (D := 8) (fun _ => .i64) Try.underlying31 rfl (by kernel_rfl) (kinds_of (by kernel_rfl)) (hval 1 31 v1 rfl rfl) h1
  obtain ⟨a2, rfl, rfl, rfl, w2⟩ := open_int Try.underlying3 (hval 2 3 v2 rfl rfl) h2
  clear hA0 hval0
  refine (walk c0 hw0 c1 hw1 a2 (bounds_i64 w2) W).mono fun e W' ⟨he, bel⟩ => ?_
  subst he
  exact ⟨_, rfl, _, _, _, [], _, [], hW', trodAll_mk1 (shut_bool Try.underlying4 _), (trodAll_cons_mk (Below.trod laidOut (by kernel_rfl) (of_decide_eq_true (by kernel_rfl)) k0 bel lt0) (trodAll_cons_mk (Below.trod laidOut (by kernel_rfl) (of_decide_eq_true (by kernel_rfl)) k1 bel lt1) (trodAll_cons_mk (Below.trod laidOut (by kernel_rfl) (of_decide_eq_true (by kernel_rfl)) k2 bel lt2) trodAll_mk0))), rfl, bel.frame _, fun h => by cases h⟩

theorem over : Rows.placeSharesRow.holds Try.pinned (OpenSpec.ofChange Rows.placeSharesSpec) :=
  OpenClaim.holds_of_wide 6 Try.f6 rfl rfl rfl rfl rfl rfl rfl ⟨rfl, rfl, rfl, rfl, rfl⟩ rfl rfl rfl rfl rfl (by kernel_rfl) Try.func6 (by kernel_rfl)
    (of_decide_eq_true (by kernel_rfl)) (by unfold Func.isWrapper; first | (rw [if_pos (by decide +kernel)]; kernel_rfl) | (rw [if_neg (by decide +kernel)]; exact ⟨rfl, rfl⟩))
    (fun os started H enc _ => lifted os started H enc)

theorem proved : Rows.PlaceSharesSaid := over
end Go.Proofs.Ytffgndmcamedaaa.placeShares
namespace Go.Proofs.Ytffgndmcamedaaa
theorem placeShares_holds : Rows.PlaceSharesSaid := placeShares.proved
#print axioms placeShares_holds
end Go.Proofs.Ytffgndmcamedaaa
