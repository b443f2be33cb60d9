/-
  Behind a crash the rows are those whose calls answered, and at most the one that was cut, whole: estuarylaw07.DiaryCuts returns true for every input; no condition.
-/
import Derived.Test.YtalbiggmmmkclaaPk14
import Derived.ProofKit
import Derived.OpenShut
import Derived.ChangeOld
import Derived.Below
import Derived.Lib.SmallJoins
namespace Go.Proofs.Ytalbiggmmmkclaa.diaryCuts
open Go.ChangeShapes Go.WideShapes Go.ChangeAt Go.RowKit Go.Joins
set_option linter.unusedVariables false

/-- A tape with its rows, armed or not. -/
structure Ar (ls : List (List Nat)) (k : Nat) (S : TS) : Prop where
  up : S.down = false
  l : S.l = frms ls
  sure : S.sure = spN ls
  steps : S.steps = 2 * k
theorem steps_wr (S : TS) (m : List Nat) : (wrS S m).steps ≤ S.steps + 3 := by
  have h1 := steps_ap S m
  have h2 := steps_sy (apS S m)
  have h3 := steps_ct (syS (apS S m))
  have h4 := steps_ct (apS S m)
  unfold wrS
  split
  · split <;> omega
  · split <;> omega
theorem steps_rw (S : TS) (ls : List (List Nat)) : (rwS S ls).steps ≤ S.steps + 3 := by
  have h1 := steps_rp S (frms ls)
  unfold rwS
  split <;> omega
set_option maxRecDepth 100000 in
set_option maxHeartbeats 8000000 in
theorem walk {W : World} (q : Option Addr) (n c : Nat) (vs : List Value) (ls : List (List Nat)) (q2 : Option Addr) (n2 c2 : Nat) (vs2 : List Value) (ls2 : List (List Nat)) (rw_ : Bool) (arm fl kpn : Int)
    (hZ : LsZ W (.slice q n c) vs ls) (hZ2 : LsZ W (.slice q2 n2 c2) vs2 ls2) (hra : I64 arm) (hrf : I64 fl) (hrk : I64 kpn) :
    Calls Try.prog 4 #[.agg #[.slice q n c, .slice q2 n2 c2, .bool rw_, .int .i64 arm, .int .i64 fl, .int .i64 kpn]] W fun e w' => e = .returned (.bool true) ∧ Below W.heap.size W w' := by
  obtain ⟨L0, hz1, -⟩ := hZ
  obtain ⟨q', cap', g, off, ep, hc, hm, hp, hg, hr⟩ := L0.open
  have hlen := L0.len
  cases ep
  generalize hn : ls.length = n at *
  obtain ⟨M0, hy1, -⟩ := hZ2
  obtain ⟨q2', cap2', g2, off2, ep2, hc2, hm2, hp2, hg2, hr2⟩ := M0.open
  have hlen2 := M0.len
  cases ep2
  generalize hn2 : ls2.length = n2 at *
  have n00 := ne00
  have bA : Below W.heap.size W (W.alloc (.cells #[.slice q n c, .slice q2 n2 c2, .bool rw_, .int .i64 arm, .int .i64 fl, .int .i64 kpn] 61)) := (Below.refl _ _).alloc (Nat.le_refl _) _
  have hC : Blk (W.alloc (.cells #[.slice q n c, .slice q2 n2 c2, .bool rw_, .int .i64 arm, .int .i64 fl, .int .i64 kpn] 61)) W.heap.size #[.slice q n c, .slice q2 n2 c2, .bool rw_, .int .i64 arm, .int .i64 fl, .int .i64 kpn] 61 := Blk.new _ _ _
  go_enter Try.func4, Try.ntmps4
  go_upto_region 1 with fail
  generalize W.alloc (.cells #[.slice q n c, .slice q2 n2 c2, .bool rw_, .int .i64 arm, .int .i64 fl, .int .i64 kpn] 61) = A at *
  have C0 : ∀ X, Below A.heap.size A X → X.cell? ⟨W.heap.size, 0, none⟩ = some (.slice q n c) := fun X h => (hC.keep h).at rfl
  have C1 : ∀ X, Below A.heap.size A X → X.cell? ⟨W.heap.size, 1, none⟩ = some (.slice q2 n2 c2) := fun X h => (hC.keep h).at rfl
  have C2 : ∀ X, Below A.heap.size A X → X.cell? ⟨W.heap.size, 2, none⟩ = some (.bool rw_) := fun X h => (hC.keep h).at rfl
  have C3 : ∀ X, Below A.heap.size A X → X.cell? ⟨W.heap.size, 3, none⟩ = some (.int .i64 arm) := fun X h => (hC.keep h).at rfl
  have C4 : ∀ X, Below A.heap.size A X → X.cell? ⟨W.heap.size, 4, none⟩ = some (.int .i64 fl) := fun X h => (hC.keep h).at rfl
  have C5 : ∀ X, Below A.heap.size A X → X.cell? ⟨W.heap.size, 5, none⟩ = some (.int .i64 kpn) := fun X h => (hC.keep h).at rfl
  have L1 := L0.keep bA
  have M1 := M0.keep bA
  have hrA : ∀ (X : World) (k : Nat) (y : Value), Below A.heap.size A X → vs[k]? = some y → 0 < n → X.cell? ⟨g, off + k, none⟩ = some y := fun X k y h hy h0 => keep_cell (ab_trans bA h) (hr k y hy) (hg h0)
  have hrB : ∀ (X : World) (k : Nat) (y : Value), Below A.heap.size A X → vs2[k]? = some y → 0 < n2 → X.cell? ⟨g2, off2 + k, none⟩ = some y := fun X k y h hy h0 => keep_cell (ab_trans bA h) (hr2 k y hy) (hg2 h0)
  have hAz : W.heap.size ≤ A.heap.size := bA.size
  have FIN : Hid (∀ X, Below A.heap.size A X → Below W.heap.size W X) := fun X h => ab_trans bA h
  clear hr hr2 hg hg2 L0 M0 hC bA
  go_upto_region 3 with (go_at_call 9; refine (alive7_any _).mono ?_; rintro e V1 ⟨rfl, hb1⟩)
  by_cases hbad : 60 < n ∨ 20 < n2 ∨ n2 = 0
  · have key : (60 : Int) < (n : Int) ∨ (¬ (60 : Int) < (n : Int) ∧ (20 : Int) < (n2 : Int)) ∨ (¬ (60 : Int) < (n : Int) ∧ ¬ (20 : Int) < (n2 : Int) ∧ n2 = 0) := by omega
    rcases key with h1 | ⟨h1, h2⟩ | ⟨h1, h2, h3⟩
    · go_wp2_with fail
      go_ret
      exact ⟨rfl, FIN.out _ hb1⟩
    · go_wp2_with fail
      go_ret
      exact ⟨rfl, FIN.out _ hb1⟩
    · subst h3
      go_wp2_with fail
      go_ret
      exact ⟨rfl, FIN.out _ hb1⟩
  have hb60 : n ≤ 60 := by omega
  have hb20 : n2 ≤ 20 := by omega
  have hn20 : 0 < n2 := by omega
  obtain rfl := hp2 hn20
  have hb60i : ¬ (60 : Int) < (n : Int) := by omega
  have hb20i : ¬ (20 : Int) < (n2 : Int) := by omega
  have hn0i : ((n2 : Int) == 0) = false := by simp; omega
  clear hbad hp2
  go_wp2_with (first
    | (go_at_call 11; refine (new_any _).mono ?_; rintro e V2 ⟨rfl, h2, b2⟩; have h2' := h2.less hb1.size; have bw2 := ab_trans hb1 b2)
    | (go_at_call 12; refine (dopen_up _ _ _ [] 0 0 _ h2' (by omega) Rok.nil).mono ?_; rintro e V3 ⟨d, q3, c3, vs3, v3, rfl, hd3, hD3, -, h3, m3⟩; have bw3 := bw2.trans (h2'.below m3)))
  have hAd : A.heap.size ≤ d := Nat.le_trans (Nat.le_trans hb1.size b2.size) hd3
  generalize V1.heap.size = b at *
  clear m3 h2 h2' bw2 b2 hd3 hb1
  go_loopw [50] (fun i wr => ∃ (k : Nat) (v : Value), k ≤ n ∧ i = .int .i64 (k : Int) ∧ Tp wr A.heap.size b v (up (frms (ls.take k)) (spN (ls.take k)) (2 * k)) ∧ Blk wr d (dcs b k (spN (ls.take k))) 80 ∧ (∀ r ∈ ls.take k, r.length ≤ 2000) ∧ Below A.heap.size A wr) (fun i _ => n - (intOf i).toNat)
  case atStart => exact ⟨0, v3, by omega, rfl, h3, hD3, by simp, bw3⟩
  case round =>
    clear h3 hD3 bw3
    obtain ⟨k, v, hk, rfl, hT, hD, hall, hbw⟩ := hrel
    have hsb := spN_bound (ls.take k) 2000 hall
    have hkl : (ls.take k).length = k := by rw [List.length_take]; omega
    rw [hkl] at hsb
    have hfl := frms_len (ls.take k)
    by_cases ck : k = n
    · subst ck
      rw [List.take_of_length_le (by omega)] at *
      have hrok : Rok ls := fun r hr' => ⟨by have := hall r hr'; omega, (hz1 r hr').1⟩
      clear hp hall hrA hz1
      go_wp2_with fail
      obtain ⟨V, rfl⟩ : ∃ V, V = wr := ⟨wr, rfl⟩
      go_loopw [70] (fun i wr => ∃ k2 : Nat, k2 ≤ n2 ∧ i = .int .i64 (k2 : Int) ∧ (∀ r ∈ ls2.take k2, r.length ≤ 2000) ∧ wr = V) (fun i _ => n2 - (intOf i).toNat)
      case atStart => exact ⟨0, by omega, rfl, by simp, rfl⟩
      case round =>
        obtain ⟨k2, hk2, rfl, hall2, rfl⟩ := hrel
        by_cases ck2 : k2 = n2
        · subst ck2
          rw [List.take_of_length_le (by omega)] at hall2
          have hrok2 : Rok ls2 := fun r hr' => ⟨by have := hall2 r hr'; omega, (hy1 r hr').1⟩
          have hsb2 := spN_bound ls2 2000 hall2
          rw [hn2] at hsb2
          obtain ⟨y, hy⟩ : ∃ y, vs2[0]? = some y := ⟨vs2[0], List.getElem?_eq_getElem (by omega)⟩
          obtain ⟨m, hm'⟩ : ∃ l, ls2[0]? = some l := ⟨ls2[0], List.getElem?_eq_getElem (by omega)⟩
          have sm := M1.each 0 y m hy hm'
          have DY : ∀ X, Below A.heap.size A X → X.cell? ⟨g2, off2, none⟩ = some y := fun X h => hrB X 0 y h hy hn20
          have hmm := hall2 m (List.mem_of_getElem? hm')
          have hmb := (hrok2 m (List.mem_of_getElem? hm')).2
          clear hrB hall2 hy1 hk2 hy hm'
          have har0 : Ar ls k (up (frms ls) (spN ls) (2 * k)) := ⟨rfl, rfl, rfl, rfl⟩
          go_upto_if 80 with fail
          go_cut [] from 81 to 84 (fun wc => ∃ S1, Tp wc A.heap.size b v S1 ∧ Ar ls k S1 ∧ Blk wc d (dcs b k (spN ls)) 80 ∧ Below A.heap.size A wc)
          case first =>
            by_cases hA : 0 ≤ arm
            · obtain ⟨a', rfl⟩ := Int.eq_ofNat_of_zero_le hA
              go_wp2_with (go_at_call 23; refine (arm_ok _ _ _ _ a' _ hT (by have := hra.2; omega)).mono ?_; rintro e V9 ⟨rfl, h9, m9⟩)
              go_meet
              case rel => exact ⟨_, h9, ⟨rfl, rfl, rfl, rfl⟩, hD.mv hT m9 (by decide) (by decide), hbw.trans (hT.below m9)⟩
            · go_wp2_with fail
              go_meet
              case rel => exact ⟨_, hT, har0, hD, hbw⟩
          case rest =>
          clear hT hD hbw har0
          obtain ⟨S1, hT, har, hD, hbw⟩ := hcut
          go_upto_if 87 with fail
          go_cut [] from 88 to 91 (fun wx => ∃ S1, Tp wx A.heap.size b v S1 ∧ Ar ls k S1 ∧ Blk wx d (dcs b k (spN ls)) 80 ∧ Below A.heap.size A wx)
          case first =>
            by_cases hA : 0 ≤ fl
            · obtain ⟨a', rfl⟩ := Int.eq_ofNat_of_zero_le hA
              go_wp2_with (go_at_call 24; refine (fail_ok _ _ _ _ a' _ hT (by have := hrf.2; omega)).mono ?_; rintro e V9 ⟨rfl, h9, m9⟩)
              go_meet
              case rel => exact ⟨_, h9, ⟨har.up, har.l, har.sure, har.steps⟩, hD.mv hT m9 (by decide) (by decide), hbw.trans (hT.below m9)⟩
            · go_wp2_with fail
              go_meet
              case rel => exact ⟨_, hT, har, hD, hbw⟩
          case rest =>
          clear hT hD hbw har
          obtain ⟨S1, hT, har, hD, hbw⟩ := hcut
          go_upto_region 26 with (go_at_call 20; refine (dtexts_any _ vs ls _ (L1.keep hbw) (by omega)).mono ?_; rintro e V5 ⟨v5, rfl, T5, b5⟩; obtain ⟨q5, c5, e5⟩ := T5.txs.slice; rw [hn] at e5; subst e5)
          have hT5 := hT.keep b5
          have hD5 := hD.keep b5
          have bw5 := ab_trans hbw b5
          have T5' := T5.less hbw.size
          have har5 := har
          clear hT hD hbw b5 T5
          obtain ⟨qy, ny, cy, ey⟩ := sm.slice
          subst ey
          go_cut [12] from 95 to 104 (fun s wy => Txo wy A.heap.size s (ls ++ [m]) ∧ Below V5.heap.size V5 wy)
          case first =>
            refine wp_region_held_drew (S := fun w' => Below V5.drew.heap.size V5.drew w') (by kernel_rfl) (Below.refl _ _) (fun hHeld => ?_)
            have bX : Below V5.heap.size V5 V5.drew := (Below.refl _ _).drew
            have TX := T5'.keep bX
            have bXA := ab_trans bw5 bX
            generalize V5.drew = X at *
            have bv := Below.refl X.heap.size X
            refine takeH (i := 1) (some 96) rfl rfl (by kernel_rfl) (by kernel_rfl) (by kernel_rfl) (fun _ _ _ h => h) (by rfl) (fun w hSw => by (try dsimp only at hSw); go_simp; try rfl) hHeld ?_
            go_frame
            refine takeH (i := 3) (some 98) rfl rfl (by kernel_rfl) (by kernel_rfl) (by kernel_rfl) (fun _ _ _ h => h) (by rfl) (fun w hSw => by (try dsimp only at hSw); go_simp; try rfl) hHeld ?_
            go_frame
            refine takeH (i := 4) (some 99) rfl rfl (by kernel_rfl) (by kernel_rfl) (by kernel_rfl) (fun _ _ _ h => h) (by rfl) (fun w hSw => by (try dsimp only at hSw); (have hc1 := C1 _ (ab_trans bXA hSw); go_simp; try rfl)) hHeld ?_
            go_frame
            refine takeH (i := 5) (some 100) rfl rfl (by kernel_rfl) (by kernel_rfl) (by kernel_rfl) (fun _ _ _ h => h) (by rfl) (fun w hSw => by (try dsimp only at hSw); go_simp; try rfl) hHeld ?_
            go_frame
            refine takeH (i := 6) (some 101) rfl rfl (by kernel_rfl) (by kernel_rfl) (by kernel_rfl) (fun _ _ _ h => h) (by rfl) (fun w hSw => by (try dsimp only at hSw); (have hc1 := DY _ (ab_trans bXA hSw); go_simp; try rfl)) hHeld ?_
            go_frame
            refine takeH (i := 7) (some 102) rfl rfl (by kernel_rfl) (by kernel_rfl) (by kernel_rfl) (fun _ _ _ h => h) (by rfl) (fun w hSw => by (try dsimp only at hSw); exact cv_run (x := .tmp 101) rfl rfl (sm.keep (ab_trans bXA hSw))) hHeld ?_
            go_frame
            refine wpAnyH_ready (rs := [0, 8]) (by kernel_rfl) (by simp) ?_
            refine AllReadyH.cons rfl (fun K hK => ?_) (AllReadyH.cons rfl (fun K hK => ?_) AllReadyH.nil)
            · rw [if_pos (by rfl)]
              refine st0W (some 95) rfl rfl fun v95 Y1 h0 bn => ?_
              have F0 := own_less h0 bv.size
              replace bv := ab_trans bv bn
              clear h0 bn
              refine hK.out _ _ bv (fun hHeld => ?_)
              clear hK K
              go_frame
              refine wpAnyH_ready (rs := [2, 8]) (by kernel_rfl) (by simp) ?_
              refine AllReadyH.cons rfl (fun K hK => ?_) (AllReadyH.cons rfl (fun K hK => ?_) AllReadyH.nil)
              · rw [if_pos (by rfl)]
                refine appSW X.heap.size (some 97) rfl rfl rfl F0 rfl (TX.keep bv).txs hn (by omega) bv.size fun v97 Y2 F2 hg => ?_
                replace bv := bv.trans (below_ownE F0 bv.size hg)
                clear hg F0
                refine hK.out _ _ bv (fun hHeld => ?_)
                clear hK K
                go_frame
                refine wpAnyH_ready (rs := [8]) (by kernel_rfl) (by simp) (AllReadyH.cons rfl (fun K hK => ?_) AllReadyH.nil)
                rw [if_pos (by rfl)]
                refine st1W (some 103) rfl rfl rfl fun v103 Y3 h8 bn => ?_
                have F8 := own_less h8 bv.size
                replace F2 := own_keep F2 bn
                replace bv := ab_trans bv bn
                clear h8 bn
                refine hK.out _ _ bv (fun hHeld => ?_)
                clear hK K
                go_frame
                refine wpAnyH_ready (rs := [9]) (by kernel_rfl) (by simp) (AllReadyH.cons rfl (fun K hK => ?_) AllReadyH.nil)
                rw [if_pos (by rfl)]
                refine appSW X.heap.size (some 104) rfl rfl rfl F2 rfl (txo_of F8).txs rfl (by simp; omega) bv.size fun v104 Y4 F9 hg => ?_
                replace bv := bv.trans (below_ownE F2 bv.size hg)
                clear hg F2 F8
                refine hK.out _ _ bv (fun hHeld => ?_)
                clear hK K
                go_frame
                refine takeH (i := 10) (some 12) rfl rfl (by kernel_rfl) (by kernel_rfl) (by kernel_rfl) (fun _ _ _ h => h) (by rfl) (fun w hSw => by (try dsimp only at hSw); go_simp; try rfl) hHeld ?_
                go_frame
                refine wpAnyH_done (by kernel_rfl) ?_ _
                go_wp2_with fail
                go_meet
                case rel => exact ⟨(txo_of F9).less bXA.size, ab_trans bX bv⟩
              · rw [if_pos (by rfl)]
                refine st1W (some 103) rfl rfl rfl fun v103 Y2 h8 bn => ?_
                have F8 := own_less h8 bv.size
                have SP : Sep v103 v95 := (sep_lt (fun k hk => (F0.lt k hk).2) (fun k hk => (h8.lt k hk).1)).symm
                replace F0 := own_keep F0 bn
                replace bv := ab_trans bv bn
                clear h8 bn
                refine hK.out _ _ bv (fun hHeld => ?_)
                clear hK K
                go_frame
                refine wpAnyH_ready (rs := [2]) (by kernel_rfl) (by simp) (AllReadyH.cons rfl (fun K hK => ?_) AllReadyH.nil)
                rw [if_pos (by rfl)]
                refine appSW X.heap.size (some 97) rfl rfl rfl F0 rfl (TX.keep bv).txs hn (by omega) bv.size fun v97 Y3 F2 hg => ?_
                replace F8 := World.ownsRow.kept F8 hg SP.row
                replace bv := bv.trans (below_ownE F0 bv.size hg)
                clear hg F0
                refine hK.out _ _ bv (fun hHeld => ?_)
                clear hK K
                go_frame
                refine wpAnyH_ready (rs := [9]) (by kernel_rfl) (by simp) (AllReadyH.cons rfl (fun K hK => ?_) AllReadyH.nil)
                rw [if_pos (by rfl)]
                refine appSW X.heap.size (some 104) rfl rfl rfl F2 rfl (txo_of F8).txs rfl (by simp; omega) bv.size fun v104 Y4 F9 hg => ?_
                replace bv := bv.trans (below_ownE F2 bv.size hg)
                clear hg F2 F8
                refine hK.out _ _ bv (fun hHeld => ?_)
                clear hK K
                go_frame
                refine takeH (i := 10) (some 12) rfl rfl (by kernel_rfl) (by kernel_rfl) (by kernel_rfl) (fun _ _ _ h => h) (by rfl) (fun w hSw => by (try dsimp only at hSw); go_simp; try rfl) hHeld ?_
                go_frame
                refine wpAnyH_done (by kernel_rfl) ?_ _
                go_wp2_with fail
                go_meet
                case rel => exact ⟨(txo_of F9).less bXA.size, ab_trans bX bv⟩
            · rw [if_pos (by rfl)]
              refine st1W (some 103) rfl rfl rfl fun v103 Y1 h8 bn => ?_
              have F8 := own_less h8 bv.size
              replace bv := ab_trans bv bn
              clear h8 bn
              refine hK.out _ _ bv (fun hHeld => ?_)
              clear hK K
              go_frame
              refine wpAnyH_ready (rs := [0]) (by kernel_rfl) (by simp) (AllReadyH.cons rfl (fun K hK => ?_) AllReadyH.nil)
              rw [if_pos (by rfl)]
              refine st0W (some 95) rfl rfl fun v95 Y2 h0 bn => ?_
              have F0 := own_less h0 bv.size
              have SP : Sep v103 v95 := sep_lt (fun k hk => (F8.lt k hk).2) (fun k hk => (h0.lt k hk).1)
              replace F8 := own_keep F8 bn
              replace bv := ab_trans bv bn
              clear h0 bn
              refine hK.out _ _ bv (fun hHeld => ?_)
              clear hK K
              go_frame
              refine wpAnyH_ready (rs := [2]) (by kernel_rfl) (by simp) (AllReadyH.cons rfl (fun K hK => ?_) AllReadyH.nil)
              rw [if_pos (by rfl)]
              refine appSW X.heap.size (some 97) rfl rfl rfl F0 rfl (TX.keep bv).txs hn (by omega) bv.size fun v97 Y3 F2 hg => ?_
              replace F8 := World.ownsRow.kept F8 hg SP.row
              replace bv := bv.trans (below_ownE F0 bv.size hg)
              clear hg F0
              refine hK.out _ _ bv (fun hHeld => ?_)
              clear hK K
              go_frame
              refine wpAnyH_ready (rs := [9]) (by kernel_rfl) (by simp) (AllReadyH.cons rfl (fun K hK => ?_) AllReadyH.nil)
              rw [if_pos (by rfl)]
              refine appSW X.heap.size (some 104) rfl rfl rfl F2 rfl (txo_of F8).txs rfl (by simp; omega) bv.size fun v104 Y4 F9 hg => ?_
              replace bv := bv.trans (below_ownE F2 bv.size hg)
              clear hg F2 F8
              refine hK.out _ _ bv (fun hHeld => ?_)
              clear hK K
              go_frame
              refine takeH (i := 10) (some 12) rfl rfl (by kernel_rfl) (by kernel_rfl) (by kernel_rfl) (fun _ _ _ h => h) (by rfl) (fun w hSw => by (try dsimp only at hSw); go_simp; try rfl) hHeld ?_
              go_frame
              refine wpAnyH_done (by kernel_rfl) ?_ _
              go_wp2_with fail
              go_meet
              case rel => exact ⟨(txo_of F9).less bXA.size, ab_trans bX bv⟩
          case rest =>
          obtain ⟨T6, b6⟩ := hcut
          have hT6 := hT5.keep b6
          have hD6 := hD5.keep b6
          have bw6 := ab_trans bw5 b6
          have T5w := T5'.keep b6
          have hst1 := har5.steps
          have hadd := add_cut S1 ls m har5.up har5.l har5.sure hrok (by omega) hmb (by omega)
          have hrw := rw_cut S1 ls ls2 har5.up har5.l har5.sure hrok hrok2 (by omega)
          have hsw := steps_wr S1 (frm m)
          have hsr := steps_rw S1 ls2
          have hr14 : ∀ l ∈ ls2, l.length ≤ 200000000000000 := fun l hl => by have := hrok2.len l hl; omega
          clear hT5 hD5 bw5 T5' b6 har5
          go_upto_if 106 with fail
          go_cut [6, 12] from 107 to 119 (fun e s wz => ∃ (N : Nat) (S2 : TS) (v2 : Value) (nx : List (List Nat)), e = errV N ∧ Txo wz A.heap.size s nx ∧ Txo wz A.heap.size (.slice q5 k c5) ls ∧ Tp wz A.heap.size b v2 S2 ∧ CutP S2 N ls nx ∧ (∀ r ∈ nx, Byt r) ∧ S2.steps ≤ 2 * k + 3 ∧ Below A.heap.size A wz)
          case first =>
            cases rw_ with
            | true =>
              go_wp2_with (first
                | (go_at_call 20; refine (dtexts_any _ vs2 ls2 _ (M1.keep bw6) (by omega)).mono ?_; rintro e V7 ⟨v7, rfl, T7, b7⟩; have hT7 := hT6.keep b7; have hD7 := hD6.keep b7; have bw7 := ab_trans bw6 b7; have T5x := T5w.keep b7)
                | (go_at_call 18; refine (drewrite_any _ _ _ _ _ _ _ vs2 ls2 _ _ hT7 (by omega) hD7 (M1.keep bw7) hrok2.byt hr14).mono ?_; rintro e V8 ⟨rfl, v8, h8, m8, -, -⟩))
              go_meet
              case rel => exact ⟨_, _, v8, ls2, rfl, own_mw (T7.less bw6.size) hT7 hD7 m8 (by decide) (by decide) (by decide), own_mw T5x hT7 hD7 m8 (by decide) (by decide) (by decide), h8, hrw, hrok2.byt, by omega, bw7.trans (m8.below hT7 hAd)⟩
            | false =>
              have sm6 := sm.keep bw6
              go_wp2_with (go_at_call 16; refine (dadd_any _ _ _ _ _ _ _ m _ _ hT6 (by omega) hD6 sm6 hmb (by omega) (by omega) (by omega)).mono ?_; rintro e V8 ⟨rfl, v8, h8, m8, -, -⟩)
              go_meet
              case rel => exact ⟨_, _, v8, ls ++ [m], rfl, own_mw T6 hT6 hD6 m8 (by decide) (by decide) (by decide), own_mw T5w hT6 hD6 m8 (by decide) (by decide) (by decide), h8, hadd, (hrok.snoc (by omega) hmb).byt, by omega, bw6.trans (m8.below hT6 hAd)⟩
          case rest =>
          clear hT6 hD6 bw6 T5w T6 hadd hrw hsw hsr hr14
          obtain ⟨N, S2, v2, nx, rfl, Tn, Tw, h2, hP, hnb, hst2, bw7⟩ := hcut
          have hmx2 := h2.max
          have hcb : Byt (crS S2 kpn).l := hP.byt.take _
          go_upto_region 33 with (first
            | (go_at_call 25; refine (crash_any _ _ _ _ kpn _ h2 hrk).mono ?_; rintro e V9 ⟨rfl, v9, h9, m9⟩)
            | (go_at_call 12; refine (dopen_any _ _ _ _ _ h9 (by show S2.steps < _; omega) hcb).mono ?_; rintro e V10 ⟨⟨-, hop⟩, v10, h10, m10⟩; obtain ⟨d10, vl, vs10, rfl, -, -, L10⟩ := hop (op_cr _ _)))
          have Tn10 : Txo V10 A.heap.size _ nx := own_mv (own_mv Tn h2 m9 (by decide) (by decide)) h9 m10 (by decide) (by decide)
          have Tw10 : Txo V10 A.heap.size _ ls := own_mv (own_mv Tw h2 m9 (by decide) (by decide)) h9 m10 (by decide) (by decide)
          have bw10 := (bw7.trans (h2.below m9)).trans (h9.below m10)
          clear m10 m9 h9 h10 h2 Tn Tw bw7 hop
          have e55 : ∀ w, (binOp .eql 33 (Err 5) (Err 5)).run Try.prog w = .ok (.bool true) w := fun w => by kernel_rfl
          rcases hP.num with rfl | rfl | rfl
          · rw [hP.ok rfl kpn] at L10
            rw [show errV 0 = .nilIface from rfl]
            go_wp2_with (first
              | (go_at_call 15; refine (num_nil _).mono ?_; rintro e X ⟨rfl, hX⟩; subst X)
              | (go_at_call 27; refine (dsame_yes _ _ vs10 nx _ L10.ls Tn10.txs hnb).mono ?_; rintro e V11 ⟨rfl, b11⟩))
            go_ret
            exact ⟨rfl, FIN.out _ (ab_trans bw10 b11)⟩
          · rw [show errV 5 = Err 5 from rfl]
            by_cases hX : spt (crS S2 kpn).l = ls
            · rw [hX] at L10
              go_wp2_with (first
                | (go_at_call 15; refine (num_err 5 (by omega) _).mono ?_; rintro e X ⟨rfl, hX⟩; subst X)
                | (go_at_call 27; refine (dsame_yes _ _ vs10 ls _ L10.ls Tw10.txs hrok.byt).mono ?_; rintro e V11 ⟨rfl, b11⟩))
              go_ret
              exact ⟨rfl, FIN.out _ (ab_trans bw10 b11)⟩
            · have hX2 := (hP.may rfl kpn).resolve_left hX
              rw [hX2] at L10 hX
              have HF : Hid (decide (nx = ls) = false) := decide_eq_false hX
              go_wp2_with (first
                | (go_at_call 15; refine (num_err 5 (by omega) _).mono ?_; rintro e X ⟨rfl, hX⟩; subst X))
              refine (dsame_any _ _ vs10 nx ls _ L10.ls Tw10.txs hnb hrok.byt).mono ?_
              rw [HF.out]
              rintro e V11 ⟨rfl, b11⟩
              go_wp2_with fail
              refine (dsame_yes _ _ vs10 nx _ (L10.ls.keep b11) (Tn10.keep b11).txs hnb).mono ?_
              rintro e V12 ⟨rfl, b12⟩
              go_wp2_with fail
              go_ret
              exact ⟨rfl, FIN.out _ (ab_trans (ab_trans bw10 b11) b12)⟩
          · rw [hP.no rfl kpn] at L10
            rw [show errV 6 = Err 6 from rfl]
            go_wp2_with (first
              | (go_at_call 15; refine (num_err 6 (by omega) _).mono ?_; rintro e X ⟨rfl, hX⟩; subst X)
              | (go_at_call 27; refine (dsame_yes _ _ vs10 ls _ L10.ls Tw10.txs hrok.byt).mono ?_; rintro e V11 ⟨rfl, b11⟩))
            go_ret
            exact ⟨rfl, FIN.out _ (ab_trans bw10 b11)⟩
        · obtain ⟨y, hy⟩ : ∃ y, vs2[k2]? = some y := ⟨vs2[k2], List.getElem?_eq_getElem (by omega)⟩
          obtain ⟨l, hl⟩ : ∃ l, ls2[k2]? = some l := ⟨ls2[k2], List.getElem?_eq_getElem (by omega)⟩
          have dy := hrB _ k2 y hbw hy (by omega)
          have sy := (M1.each k2 y l hy hl).keep hbw
          obtain ⟨qy, ny, cy, ey⟩ := sy.slice
          subst ey
          have hly := sy.len
          have hki : (k2 : Int) < (n2 : Int) := by omega
          have hkn : k2 < n2 := by omega
          have HT3 : Hid (l.length ≤ 2000 → ∀ r ∈ ls2.take (k2 + 1), r.length ≤ 2000) := fun h => all_next ls2 k2 l hl hall2 h
          clear hy hl hall2 hrB
          by_cases hlong : 2000 < ny
          · have hli : (2000 : Int) < (ny : Int) := by omega
            go_wp2_with fail
            go_ret
            exact ⟨rfl, FIN.out _ hbw⟩
          · have hli : ¬ (2000 : Int) < (ny : Int) := by omega
            go_wp2_with fail
            exact ⟨⟨k2 + 1, by omega, rfl, HT3.out (by omega), trivial⟩, by simp only [intOf]; omega⟩
    · obtain ⟨y, hy⟩ : ∃ y, vs[k]? = some y := ⟨vs[k], List.getElem?_eq_getElem (by omega)⟩
      obtain ⟨l, hl⟩ : ∃ l, ls[k]? = some l := ⟨ls[k], List.getElem?_eq_getElem (by omega)⟩
      obtain rfl := hp (by omega)
      have dy := hrA _ k y hbw hy (by omega)
      have sy := (L1.each k y l hy hl).keep hbw
      have hbl := (hz1 l (List.mem_of_getElem? hl)).1
      obtain ⟨qy, ny, cy, ey⟩ := sy.slice
      subst ey
      have hly := sy.len
      have hki : (k : Int) < (n : Int) := by omega
      have hkn : k < n := by omega
      have HT1 : Hid (spN (ls.take (k + 1)) = spN (ls.take k) + (8 + l.length)) := spN_next ls k l hl
      have HT2 : Hid (frms (ls.take (k + 1)) = frms (ls.take k) ++ frm l) := frms_next ls k l hl
      have HT3 : Hid (l.length ≤ 2000 → ∀ r ∈ ls.take (k + 1), r.length ≤ 2000) := fun h => all_next ls k l hl hall h
      clear hp hy hl hall hz1 hrA
      by_cases hlong : 2000 < ny
      · have hli : (2000 : Int) < (ny : Int) := by omega
        go_wp2_with fail
        go_ret
        exact ⟨rfl, FIN.out _ hbw⟩
      · have hli : ¬ (2000 : Int) < (ny : Int) := by omega
        go_wp2_with (go_at_call 16; refine (dadd_up _ _ _ _ _ _ _ _ _ _ _ _ hT (by omega) hD sy hbl (by omega) (by omega) (by omega) (by omega)).mono ?_; rintro e V4 ⟨rfl, v4, h4, m4, hD4⟩)
        have bw4 := hbw.trans (m4.below hT hAd)
        have h5 : Tp V4 A.heap.size b v4 (up (frms (ls.take (k + 1))) (spN (ls.take (k + 1))) (2 * (k + 1))) := by rw [HT2.out, HT1.out, Nat.mul_add, ← hfl]; exact h4
        have hD5 : Blk V4 d (dcs b (k + 1) (spN (ls.take (k + 1)))) 80 := by rw [HT1.out]; exact hD4
        exact ⟨⟨k + 1, v4, by omega, rfl, h5, hD5, HT3.out (by omega), bw4⟩, by simp only [intOf]; omega⟩

theorem own : ownKnob Try.prog.godebug = none := by kernel_rfl
theorem laidOut : laidOutB Try.prog = true := by kernel_rfl

set_option maxRecDepth 100000 in
theorem lifted (os : Os) (started : os.Started) (H : Type) (enc : TypeId × Value → H) :
    ReturnsInHanded {} Try.checked os 4 .any (Rows.diaryCutsSpec.pre6 enc Try.prog Try.f4 Rows.diaryCutsRow.domain false) (Rows.diaryCutsSpec.post enc Try.prog Try.f4 false true false false) := by
  refine returnsInHanded_of_change_sized (C := Try.checked) own started (by kernel_rfl) Try.func4
    (ChangeSpec.witness6 (enc := enc) (C := Try.checked) false ⟨#[], #[.agg #[.slice none 0 0, .slice none 0 0, .bool false, .int .i64 0, .int .i64 0, .int .i64 0]], []⟩ 8 (by kernel_rfl) (by kernel_rfl) (by kernel_rfl) (by kernel_rfl)) ?_
  intro W base args ds gs before hval0 hW hcnd hsz _
  have hval : ∀ (j : Nat) t v, Try.f4.params[j]? = some t → args[j]? = some v → Value.okWide Try.prog W .any base t v := hval0
  have hW' := hW
  obtain ⟨p, q, hA0, hV, rfl, hfz, hnd⟩ := hW
  have hA : DataW.TrodAll enc Try.prog W 0 (fun _ => true) true Try.f4.params.toList args.toList ds p := hA0
  rw [Try.params4] at hA hval
  obtain ⟨v0, vs0, d0, ds0, p0, q0, hargs, rfl, rfl, h0, r0⟩ := trodAll_cons hA
  obtain ⟨rfl, rfl, rfl⟩ := trodAll_nil r0
  obtain rfl : args = #[v0] := by cases args; simp_all
  obtain ⟨rfl, rfl⟩ := trodVars_none hV
  have k0 := h0
  have lt0 : ∀ x ∈ p0, x.block < W.heap.size := by obtain ⟨m, hm⟩ := k0; exact DataW.trod_lt m _ _ _ hm
  obtain ⟨q_, n_, c_, vs_, ls_, q'_, n'_, c'_, vs'_, ls'_, rw_, arm_, fl_, kp_, rfl, Z1_, Z2_, Z3_, Z4_, Z5_⟩ := open_cut (hval 0 61 v0 rfl rfl) h0 (fun n hn => by simpa using List.all_eq_true.1 hsz n (DataW.weights_mem_each (j := 0) (t := 61) (by kernel_rfl) rfl n hn))
  clear hA0 hval0
  refine (walk q_ n_ c_ vs_ ls_ q'_ n'_ c'_ vs'_ ls'_ rw_ arm_ fl_ kp_ Z1_ Z2_ Z3_ Z4_ Z5_).mono fun e W' ⟨he, bel⟩ => ?_
  subst he
  exact ⟨_, rfl, _, _, _, [], _, [], hW', trodAll_mk1 (shut_bool Try.underlying4 _), (trodAll_cons_mk (Below.trod laidOut (by kernel_rfl) (of_decide_eq_true (by kernel_rfl)) k0 bel lt0) trodAll_mk0), rfl, bel.frame _, fun h => by cases h⟩

theorem over : Rows.diaryCutsRow.holds Try.pinned (OpenSpec.ofChange Rows.diaryCutsSpec) :=
  OpenClaim.holds_of_wide 4 Try.f4 rfl rfl rfl rfl rfl rfl rfl ⟨rfl, rfl, rfl, rfl, rfl⟩ rfl rfl rfl rfl rfl (by kernel_rfl) Try.func4 (by kernel_rfl)
    (of_decide_eq_true (by kernel_rfl)) (by unfold Func.isWrapper; first | (rw [if_pos (by decide +kernel)]; kernel_rfl) | (rw [if_neg (by decide +kernel)]; exact ⟨rfl, rfl⟩))
    (fun os started H enc _ => lifted os started H enc)

theorem proved : Rows.DiaryCutsSaid := over
end Go.Proofs.Ytalbiggmmmkclaa.diaryCuts
namespace Go.Proofs.Ytalbiggmmmkclaa
theorem diaryCuts_holds : Rows.DiaryCutsSaid := diaryCuts.proved
#print axioms diaryCuts_holds
end Go.Proofs.Ytalbiggmmmkclaa
