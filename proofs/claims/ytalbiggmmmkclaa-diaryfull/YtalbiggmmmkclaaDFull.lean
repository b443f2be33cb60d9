/-
  Which rows are too long, and that a refused one changes nothing: estuarylaw07.DiaryFull returns true for every input; no condition.
-/
import Derived.Test.YtalbiggmmmkclaaDyF
import Derived.ProofKit
import Derived.OpenShut
import Derived.ChangeOld
import Derived.Below
import Derived.Lib.SmallJoins
namespace Go.Proofs.Ytalbiggmmmkclaa.diaryFull
open Go.ChangeShapes Go.WideShapes Go.ChangeAt Go.RowKit Go.Joins
set_option linter.unusedVariables false

theorem mod20k (t : Int) : ∃ k : Nat, k < 20000 ∧ wrap64 ((IntKind.u64.wrap t).tmod 20000) = ((k : Nat) : Int) := by
  have h0 : 0 ≤ t % 18446744073709551616 := Int.emod_nonneg _ (by decide)
  rw [IntKind.wrap_u64]
  generalize t % 18446744073709551616 = T at *
  obtain ⟨u, rfl⟩ := Int.eq_ofNat_of_zero_le h0
  refine ⟨u % 20000, Nat.mod_lt _ (by omega), ?_⟩
  rw [Int.tmod_eq_emod_of_nonneg h0, show ((u : Int) % 20000) = ((u % 20000 : Nat) : Int) from by omega]
  unfold wrap64
  omega
theorem bsb5 (a b c d e : Nat) (w : World) : (Instr.buildSlice 39 5 #[(0, .int .u8 ((a : Nat) : Int)), (1, .int .u8 ((b : Nat) : Int)), (2, .int .u8 ((c : Nat) : Int)), (3, .int .u8 ((d : Nat) : Int)), (4, .int .u8 ((e : Nat) : Int))]).run Try.prog w = .ok (.slice (some ⟨w.heap.size, 0, none⟩) 5 5) (w.alloc (.cells (bys [a, b, c, d, e]).toArray 5)) := by kernel_rfl
theorem byt_f : Byt [102, 105, 114, 115, 116] := by intro x hx; simp at hx; omega
theorem snoc_all {p : List Nat → Prop} {ls : List (List Nat)} {Z : List Nat} (h : ∀ l ∈ ls, p l) (hz : p Z) : ∀ l ∈ ls ++ [Z], p l := fun l hl => by
  rcases List.mem_append.1 hl with h1 | h1
  · exact h l h1
  · simp at h1; subst h1; exact hz
theorem fin {V Y : World} {v52 vx v50 : Value} {vs : List Value} {ls : List (List Nat)} {Z : List Nat} {n : Nat} (LV : Ls V vx vs ls) (bw : Below V.heap.size V Y) (hZ : Sl Y v50 Z) (h : Y.ownsRow V.heap.size 39 1 v52 n (([] ++ vs) ++ [v50])) : Ls Y v52 (vs ++ [v50]) (ls ++ [Z]) := by
  refine ls_own h (by simp [LV.len]) (fun j x l hx hl => ?_)
  rcases snoc_at hx with ⟨h1, h2⟩ | ⟨h1, h2⟩
  · have h3 : (ls ++ [Z])[j]? = ls[j]? := List.getElem?_append_left (by rw [← LV.len]; exact h1)
    rw [h3] at hl
    exact (LV.each j x l h2 hl).keep bw
  · subst h2
    rw [h1, LV.len] at hl
    simp at hl
    subst hl
    exact hZ
set_option maxRecDepth 100000 in
set_option maxHeartbeats 8000000 in
theorem walk {W : World} (sz : Int) (hsz : -9223372036854775808 ≤ sz ∧ sz ≤ 9223372036854775807) (q : Option Addr) (n c : Nat) (vs : List Value) (ls : List (List Nat)) (hZ : LsZ W (.slice q n c) vs ls) :
    Calls Try.prog 6 #[.int .i64 sz, .slice q n c] W fun e w' => e = .returned (.bool true) ∧ Below W.heap.size W w' := by
  obtain ⟨L0, hz1, hz2⟩ := hZ
  have hnl : ls.length = n := by obtain ⟨q', cap', g, off, ep, -⟩ := L0.open; cases ep; rfl
  have hlb : ∀ l ∈ ls, Byt l := fun l hl => (hz1 l hl).1
  have hlz : ∀ l ∈ ls, l.length ≤ 200000000000000 := fun l hl => (hz1 l hl).2
  clear hz1 hz2
  have HnL : Hid (ls.length = n) := hnl
  obtain ⟨m, hm, HK⟩ := mod20k sz
  have e77 := eq7n
  have n00 := ne00
  have e00 := eq00
  go_enter Try.func6, Try.ntmps6
  go_upto_region 4 with (go_at_call 9; refine (alive7_any _).mono ?_; rintro e V1 ⟨rfl, hb1⟩)
  rw [HK]
  clear HK
  by_cases hbig : 20 < n
  · have hbi : (20 : Int) < (n : Int) := by omega
    go_wp2_with fail
    go_ret
    exact ⟨rfl, hb1⟩
  have hbi : ¬ (20 : Int) < (n : Int) := by omega
  go_upto_region 8 with (first
    | (go_at_call 11; refine (new_any _).mono ?_; rintro e V2 ⟨rfl, h2, b2⟩; have h2' := h2.less hb1.size; have bw2 := ab_trans hb1 b2)
    | (go_at_call 12; refine (dopen_up _ _ _ [] 0 0 _ h2' (by omega) Rok.nil).mono ?_; rintro e V3 ⟨d, q3, c3, vs3, v3, rfl, hd3, hD3, -, h3, m3⟩; have bw3 := bw2.trans (h2'.below m3)))
  have hWd : W.heap.size ≤ d := Nat.le_trans (Nat.le_trans hb1.size b2.size) hd3
  generalize V1.heap.size = b at *
  clear m3 h2 h2' bw2 b2 hd3 hb1
  go_wp2_with (first
    | (refine bs_by rfl rfl [102, 105, 114, 115, 116] (vs := #[(0, .int .u8 102), (1, .int .u8 105), (2, .int .u8 114), (3, .int .u8 115), (4, .int .u8 116)]) (by simp only [List.map_toArray, List.map_cons, List.map_nil]; rfl) (bsb5 102 105 114 115 116 _) rfl (by decide) ?_; intro V4 n4 b4 z4; clear z4)
    | (refine cv_t rfl rfl rfl n4 ?_; intro X4 s4 k4; have c4 := below_mark b4 k4; have h4 := h3.keep c4; have hD4 := hD3.keep c4))
  refine (dadd_up _ _ _ _ _ _ _ _ _ _ _ _ h4 (by omega) hD4 s4 byt_f (by decide) (by decide) (by decide) (by decide)).mono ?_
  rintro e V5 ⟨rfl, v5, h5, m5, hD5⟩
  have bw5 := (ab_trans bw3 c4).trans (m5.below h4 hWd)
  have h5' : Tp V5 W.heap.size b v5 (up (frm [102, 105, 114, 115, 116]) 13 2) := h5
  have hD5' : Blk V5 d (dcs b 1 13) 80 := hD5
  have HL13 : Hid ((frm [102, 105, 114, 115, 116]).length = 13) := frm_len _
  clear m5 h5 hD5 h4 hD4 s4 k4 c4 n4 b4 h3 hD3 bw3
  generalize frm [102, 105, 114, 115, 116] = fl at *
  by_cases hlong : 16376 < m
  · have hli : (16376 : Int) < (m : Int) := by omega
    go_wp2_with (refine mk_by (n := m) rfl rfl rfl rfl rfl (by omega) ?_; intro v6 V6 Z6 hZ6 hB6 O6 b6)
    refine (dadd_no _ _ _ _ O6.sl (by omega) (by omega)).mono ?_
    rintro e V7 ⟨rfl, b7⟩
    have h7 := (h5'.keep b6).keep b7
    have hD7 := (hD5'.keep b6).keep b7
    have bw7 := ab_trans (ab_trans bw5 b6) b7
    clear O6 h5' hD5' bw5 hZ6 hB6 b6 b7
    go_upto_region 12 with fail
    go_cut [9] from 45 to 53 (fun s wc => ∃ v', s = Err 7 ∧ Tp wc W.heap.size b v' (up fl 13 2) ∧ Blk wc d (dcs b 1 13) 80 ∧ Below W.heap.size W wc)
    case first =>
      refine wp_region_held_drew (S := fun _ => True) (by kernel_rfl) trivial (fun hHeld => ?_)
      have bd : Below V7.heap.size V7 V7.drew := (Below.refl _ _).drew
      have hTV := h7.keep bd
      have hDV := hD7.keep bd
      have bwV := ab_trans bw7 bd
      have LV := L0.keep bwV
      clear bd h7 hD7 bw7
      generalize V7.drew = V at *
      have bw := Below.refl V.heap.size V
      refine takeH (i := 0) (some 45) rfl rfl (by kernel_rfl) (by kernel_rfl) (by kernel_rfl) (fun _ _ _ h => h) (by rfl) (fun w hSw => by (try dsimp only at hSw); go_simp; try rfl) hHeld ?_
      go_frame
      refine takeH (i := 2) (some 47) rfl rfl (by kernel_rfl) (by kernel_rfl) (by kernel_rfl) (fun _ _ _ h => h) (by rfl) (fun w hSw => by (try dsimp only at hSw); go_simp; try rfl) hHeld ?_
      go_frame
      refine takeH (i := 4) (some 49) rfl rfl (by kernel_rfl) (by kernel_rfl) (by kernel_rfl) (fun _ _ _ h => h) (by rfl) (fun w hSw => by (try dsimp only at hSw); go_simp; try rfl) hHeld ?_
      go_frame
      refine wpAnyH_ready (rs := [1, 5]) (by kernel_rfl) (by simp) ?_
      refine AllReadyH.cons rfl (fun K hK => ?_) (AllReadyH.cons rfl (fun K hK => ?_) AllReadyH.nil)
      · rw [if_pos (by rfl)]
        refine lst0W (some 46) rfl rfl fun v46 Y1 h1 bn => ?_
        have F1 := own_less h1 bw.size
        replace bw := ab_trans bw bn
        clear h1 bn
        refine hK.out _ _ trivial (fun hHeld => ?_)
        clear hK K
        go_frame
        refine wpAnyH_ready (rs := [3, 5]) (by kernel_rfl) (by simp) ?_
        refine AllReadyH.cons rfl (fun K hK => ?_) (AllReadyH.cons rfl (fun K hK => ?_) AllReadyH.nil)
        · rw [if_pos (by rfl)]
          refine appLW V.heap.size (some 48) rfl rfl rfl F1 rfl (LV.keep bw) hnl (by omega) bw.size fun v48 Y2 F3 hg => ?_
          replace bw := bw.trans (below_ownE F1 bw.size hg)
          clear hg F1
          refine hK.out _ _ trivial (fun hHeld => ?_)
          clear hK K
          go_frame
          refine wpAnyH_ready (rs := [5]) (by kernel_rfl) (by simp) (AllReadyH.cons rfl (fun K hK => ?_) AllReadyH.nil)
          rw [if_pos (by rfl)]
          refine mkbW (n := m) (some 50) rfl rfl rfl rfl rfl (by omega) fun v50 Y3 Z hZl hZb h5 bn => ?_
          have F5 := h5.less bw.size
          obtain ⟨q50, c50, e50⟩ := F5.form
          rw [hZl] at e50
          subst e50
          replace F3 := own_keep F3 bn
          replace bw := ab_trans bw bn
          clear h5 bn
          refine hK.out _ _ trivial (fun hHeld => ?_)
          clear hK K
          go_frame
          refine wpAnyH_ready (rs := [6]) (by kernel_rfl) (by simp) (AllReadyH.cons rfl (fun K hK => ?_) AllReadyH.nil)
          rw [if_pos (by rfl)]
          refine lst1W (some 51) rfl rfl rfl fun v51 Y4 h6 bn => ?_
          have F6 := own_less h6 bw.size
          replace F3 := own_keep F3 bn
          replace F5 := F5.keep bn
          replace bw := ab_trans bw bn
          clear h6 bn
          refine hK.out _ _ trivial (fun hHeld => ?_)
          clear hK K
          go_frame
          refine wpAnyH_ready (rs := [7]) (by kernel_rfl) (by simp) (AllReadyH.cons rfl (fun K hK => ?_) AllReadyH.nil)
          rw [if_pos (by rfl)]
          refine appLW V.heap.size (some 52) rfl rfl rfl F3 rfl (ls_own (ls := [Z]) F6 rfl (each1 F5.sl)) rfl (by simp; omega) bw.size fun v52 Y5 F7 hg => ?_
          replace F5 := F5.kept hg (sep_ty F5 F3 (by decide))
          replace bw := bw.trans (below_ownE F3 bw.size hg)
          have L7 := fin LV bw F5.sl F7
          clear hg F3 F6 F7
          refine hK.out _ _ trivial (fun hHeld => ?_)
          clear hK K
          go_frame
          refine wpAnyH_ready (rs := [8]) (by kernel_rfl) (by simp) (AllReadyH.cons rfl (fun K hK => ?_) AllReadyH.nil)
          go_simp
          refine (drewrite_no _ _ _ _ _ _ _ _ _ _ _ (hTV.keep bw) (by show 2 < _; omega) (hDV.keep bw) L7 (snoc_all hlb hZb) (snoc_all hlz (by omega)) ⟨Z, by simp, by omega⟩).mono ?_
          rintro e Y6 ⟨rfl, v6, h6, m6, hD6⟩
          have bw6 := (ab_trans bwV bw).trans (m6.below (hTV.keep bw) hWd)
          show K _ _
          refine hK.out _ _ trivial (fun hHeld => ?_)
          clear hK K m6
          refine takeH (i := 9) (some 9) rfl rfl (by kernel_rfl) (by kernel_rfl) (by kernel_rfl) (fun _ _ _ h => h) (by rfl) (fun w hSw => by (try dsimp only at hSw); go_simp; try rfl) hHeld ?_
          go_frame
          refine wpAnyH_done (by kernel_rfl) ?_ _
          go_wp2_with fail
          go_meet
          case rel => exact ⟨v6, rfl, h6, hD6, bw6⟩
        · rw [if_pos (by rfl)]
          refine mkbW (n := m) (some 50) rfl rfl rfl rfl rfl (by omega) fun v50 Y2 Z hZl hZb h5 bn => ?_
          have F5 := h5.less bw.size
          obtain ⟨q50, c50, e50⟩ := F5.form
          rw [hZl] at e50
          subst e50
          replace F1 := own_keep F1 bn
          replace bw := ab_trans bw bn
          clear h5 bn
          refine hK.out _ _ trivial (fun hHeld => ?_)
          clear hK K
          go_frame
          refine wpAnyH_ready (rs := [3, 6]) (by kernel_rfl) (by simp) ?_
          refine AllReadyH.cons rfl (fun K hK => ?_) (AllReadyH.cons rfl (fun K hK => ?_) AllReadyH.nil)
          · rw [if_pos (by rfl)]
            refine appLW V.heap.size (some 48) rfl rfl rfl F1 rfl (LV.keep bw) hnl (by omega) bw.size fun v48 Y3 F3 hg => ?_
            replace F5 := F5.kept hg (sep_ty F5 F1 (by decide))
            replace bw := bw.trans (below_ownE F1 bw.size hg)
            clear hg F1
            refine hK.out _ _ trivial (fun hHeld => ?_)
            clear hK K
            go_frame
            refine wpAnyH_ready (rs := [6]) (by kernel_rfl) (by simp) (AllReadyH.cons rfl (fun K hK => ?_) AllReadyH.nil)
            rw [if_pos (by rfl)]
            refine lst1W (some 51) rfl rfl rfl fun v51 Y4 h6 bn => ?_
            have F6 := own_less h6 bw.size
            replace F3 := own_keep F3 bn
            replace F5 := F5.keep bn
            replace bw := ab_trans bw bn
            clear h6 bn
            refine hK.out _ _ trivial (fun hHeld => ?_)
            clear hK K
            go_frame
            refine wpAnyH_ready (rs := [7]) (by kernel_rfl) (by simp) (AllReadyH.cons rfl (fun K hK => ?_) AllReadyH.nil)
            rw [if_pos (by rfl)]
            refine appLW V.heap.size (some 52) rfl rfl rfl F3 rfl (ls_own (ls := [Z]) F6 rfl (each1 F5.sl)) rfl (by simp; omega) bw.size fun v52 Y5 F7 hg => ?_
            replace F5 := F5.kept hg (sep_ty F5 F3 (by decide))
            replace bw := bw.trans (below_ownE F3 bw.size hg)
            have L7 := fin LV bw F5.sl F7
            clear hg F3 F6 F7
            refine hK.out _ _ trivial (fun hHeld => ?_)
            clear hK K
            go_frame
            refine wpAnyH_ready (rs := [8]) (by kernel_rfl) (by simp) (AllReadyH.cons rfl (fun K hK => ?_) AllReadyH.nil)
            go_simp
            refine (drewrite_no _ _ _ _ _ _ _ _ _ _ _ (hTV.keep bw) (by show 2 < _; omega) (hDV.keep bw) L7 (snoc_all hlb hZb) (snoc_all hlz (by omega)) ⟨Z, by simp, by omega⟩).mono ?_
            rintro e Y6 ⟨rfl, v6, h6, m6, hD6⟩
            have bw6 := (ab_trans bwV bw).trans (m6.below (hTV.keep bw) hWd)
            show K _ _
            refine hK.out _ _ trivial (fun hHeld => ?_)
            clear hK K m6
            refine takeH (i := 9) (some 9) rfl rfl (by kernel_rfl) (by kernel_rfl) (by kernel_rfl) (fun _ _ _ h => h) (by rfl) (fun w hSw => by (try dsimp only at hSw); go_simp; try rfl) hHeld ?_
            go_frame
            refine wpAnyH_done (by kernel_rfl) ?_ _
            go_wp2_with fail
            go_meet
            case rel => exact ⟨v6, rfl, h6, hD6, bw6⟩
          · rw [if_pos (by rfl)]
            refine lst1W (some 51) rfl rfl rfl fun v51 Y3 h6 bn => ?_
            have F6 := own_less h6 bw.size
            have SP : Sep v51 v46 := (sep_lt (fun k hk => (F1.lt k hk).2) (fun k hk => (h6.lt k hk).1)).symm
            replace F1 := own_keep F1 bn
            replace F5 := F5.keep bn
            replace bw := ab_trans bw bn
            clear h6 bn
            refine hK.out _ _ trivial (fun hHeld => ?_)
            clear hK K
            go_frame
            refine wpAnyH_ready (rs := [3]) (by kernel_rfl) (by simp) (AllReadyH.cons rfl (fun K hK => ?_) AllReadyH.nil)
            rw [if_pos (by rfl)]
            refine appLW V.heap.size (some 48) rfl rfl rfl F1 rfl (LV.keep bw) hnl (by omega) bw.size fun v48 Y4 F3 hg => ?_
            replace F5 := F5.kept hg (sep_ty F5 F1 (by decide))
            replace F6 := World.ownsRow.kept F6 hg SP.row
            replace bw := bw.trans (below_ownE F1 bw.size hg)
            clear hg F1
            refine hK.out _ _ trivial (fun hHeld => ?_)
            clear hK K
            go_frame
            refine wpAnyH_ready (rs := [7]) (by kernel_rfl) (by simp) (AllReadyH.cons rfl (fun K hK => ?_) AllReadyH.nil)
            rw [if_pos (by rfl)]
            refine appLW V.heap.size (some 52) rfl rfl rfl F3 rfl (ls_own (ls := [Z]) F6 rfl (each1 F5.sl)) rfl (by simp; omega) bw.size fun v52 Y5 F7 hg => ?_
            replace F5 := F5.kept hg (sep_ty F5 F3 (by decide))
            replace bw := bw.trans (below_ownE F3 bw.size hg)
            have L7 := fin LV bw F5.sl F7
            clear hg F3 F6 F7
            refine hK.out _ _ trivial (fun hHeld => ?_)
            clear hK K
            go_frame
            refine wpAnyH_ready (rs := [8]) (by kernel_rfl) (by simp) (AllReadyH.cons rfl (fun K hK => ?_) AllReadyH.nil)
            go_simp
            refine (drewrite_no _ _ _ _ _ _ _ _ _ _ _ (hTV.keep bw) (by show 2 < _; omega) (hDV.keep bw) L7 (snoc_all hlb hZb) (snoc_all hlz (by omega)) ⟨Z, by simp, by omega⟩).mono ?_
            rintro e Y6 ⟨rfl, v6, h6, m6, hD6⟩
            have bw6 := (ab_trans bwV bw).trans (m6.below (hTV.keep bw) hWd)
            show K _ _
            refine hK.out _ _ trivial (fun hHeld => ?_)
            clear hK K m6
            refine takeH (i := 9) (some 9) rfl rfl (by kernel_rfl) (by kernel_rfl) (by kernel_rfl) (fun _ _ _ h => h) (by rfl) (fun w hSw => by (try dsimp only at hSw); go_simp; try rfl) hHeld ?_
            go_frame
            refine wpAnyH_done (by kernel_rfl) ?_ _
            go_wp2_with fail
            go_meet
            case rel => exact ⟨v6, rfl, h6, hD6, bw6⟩
      · rw [if_pos (by rfl)]
        refine mkbW (n := m) (some 50) rfl rfl rfl rfl rfl (by omega) fun v50 Y1 Z hZl hZb h5 bn => ?_
        have F5 := h5.less bw.size
        obtain ⟨q50, c50, e50⟩ := F5.form
        rw [hZl] at e50
        subst e50
        replace bw := ab_trans bw bn
        clear h5 bn
        refine hK.out _ _ trivial (fun hHeld => ?_)
        clear hK K
        go_frame
        refine wpAnyH_ready (rs := [1, 6]) (by kernel_rfl) (by simp) ?_
        refine AllReadyH.cons rfl (fun K hK => ?_) (AllReadyH.cons rfl (fun K hK => ?_) AllReadyH.nil)
        · rw [if_pos (by rfl)]
          refine lst0W (some 46) rfl rfl fun v46 Y2 h1 bn => ?_
          have F1 := own_less h1 bw.size
          replace F5 := F5.keep bn
          replace bw := ab_trans bw bn
          clear h1 bn
          refine hK.out _ _ trivial (fun hHeld => ?_)
          clear hK K
          go_frame
          refine wpAnyH_ready (rs := [3, 6]) (by kernel_rfl) (by simp) ?_
          refine AllReadyH.cons rfl (fun K hK => ?_) (AllReadyH.cons rfl (fun K hK => ?_) AllReadyH.nil)
          · rw [if_pos (by rfl)]
            refine appLW V.heap.size (some 48) rfl rfl rfl F1 rfl (LV.keep bw) hnl (by omega) bw.size fun v48 Y3 F3 hg => ?_
            replace F5 := F5.kept hg (sep_ty F5 F1 (by decide))
            replace bw := bw.trans (below_ownE F1 bw.size hg)
            clear hg F1
            refine hK.out _ _ trivial (fun hHeld => ?_)
            clear hK K
            go_frame
            refine wpAnyH_ready (rs := [6]) (by kernel_rfl) (by simp) (AllReadyH.cons rfl (fun K hK => ?_) AllReadyH.nil)
            rw [if_pos (by rfl)]
            refine lst1W (some 51) rfl rfl rfl fun v51 Y4 h6 bn => ?_
            have F6 := own_less h6 bw.size
            replace F3 := own_keep F3 bn
            replace F5 := F5.keep bn
            replace bw := ab_trans bw bn
            clear h6 bn
            refine hK.out _ _ trivial (fun hHeld => ?_)
            clear hK K
            go_frame
            refine wpAnyH_ready (rs := [7]) (by kernel_rfl) (by simp) (AllReadyH.cons rfl (fun K hK => ?_) AllReadyH.nil)
            rw [if_pos (by rfl)]
            refine appLW V.heap.size (some 52) rfl rfl rfl F3 rfl (ls_own (ls := [Z]) F6 rfl (each1 F5.sl)) rfl (by simp; omega) bw.size fun v52 Y5 F7 hg => ?_
            replace F5 := F5.kept hg (sep_ty F5 F3 (by decide))
            replace bw := bw.trans (below_ownE F3 bw.size hg)
            have L7 := fin LV bw F5.sl F7
            clear hg F3 F6 F7
            refine hK.out _ _ trivial (fun hHeld => ?_)
            clear hK K
            go_frame
            refine wpAnyH_ready (rs := [8]) (by kernel_rfl) (by simp) (AllReadyH.cons rfl (fun K hK => ?_) AllReadyH.nil)
            go_simp
            refine (drewrite_no _ _ _ _ _ _ _ _ _ _ _ (hTV.keep bw) (by show 2 < _; omega) (hDV.keep bw) L7 (snoc_all hlb hZb) (snoc_all hlz (by omega)) ⟨Z, by simp, by omega⟩).mono ?_
            rintro e Y6 ⟨rfl, v6, h6, m6, hD6⟩
            have bw6 := (ab_trans bwV bw).trans (m6.below (hTV.keep bw) hWd)
            show K _ _
            refine hK.out _ _ trivial (fun hHeld => ?_)
            clear hK K m6
            refine takeH (i := 9) (some 9) rfl rfl (by kernel_rfl) (by kernel_rfl) (by kernel_rfl) (fun _ _ _ h => h) (by rfl) (fun w hSw => by (try dsimp only at hSw); go_simp; try rfl) hHeld ?_
            go_frame
            refine wpAnyH_done (by kernel_rfl) ?_ _
            go_wp2_with fail
            go_meet
            case rel => exact ⟨v6, rfl, h6, hD6, bw6⟩
          · rw [if_pos (by rfl)]
            refine lst1W (some 51) rfl rfl rfl fun v51 Y3 h6 bn => ?_
            have F6 := own_less h6 bw.size
            have SP : Sep v51 v46 := (sep_lt (fun k hk => (F1.lt k hk).2) (fun k hk => (h6.lt k hk).1)).symm
            replace F1 := own_keep F1 bn
            replace F5 := F5.keep bn
            replace bw := ab_trans bw bn
            clear h6 bn
            refine hK.out _ _ trivial (fun hHeld => ?_)
            clear hK K
            go_frame
            refine wpAnyH_ready (rs := [3]) (by kernel_rfl) (by simp) (AllReadyH.cons rfl (fun K hK => ?_) AllReadyH.nil)
            rw [if_pos (by rfl)]
            refine appLW V.heap.size (some 48) rfl rfl rfl F1 rfl (LV.keep bw) hnl (by omega) bw.size fun v48 Y4 F3 hg => ?_
            replace F5 := F5.kept hg (sep_ty F5 F1 (by decide))
            replace F6 := World.ownsRow.kept F6 hg SP.row
            replace bw := bw.trans (below_ownE F1 bw.size hg)
            clear hg F1
            refine hK.out _ _ trivial (fun hHeld => ?_)
            clear hK K
            go_frame
            refine wpAnyH_ready (rs := [7]) (by kernel_rfl) (by simp) (AllReadyH.cons rfl (fun K hK => ?_) AllReadyH.nil)
            rw [if_pos (by rfl)]
            refine appLW V.heap.size (some 52) rfl rfl rfl F3 rfl (ls_own (ls := [Z]) F6 rfl (each1 F5.sl)) rfl (by simp; omega) bw.size fun v52 Y5 F7 hg => ?_
            replace F5 := F5.kept hg (sep_ty F5 F3 (by decide))
            replace bw := bw.trans (below_ownE F3 bw.size hg)
            have L7 := fin LV bw F5.sl F7
            clear hg F3 F6 F7
            refine hK.out _ _ trivial (fun hHeld => ?_)
            clear hK K
            go_frame
            refine wpAnyH_ready (rs := [8]) (by kernel_rfl) (by simp) (AllReadyH.cons rfl (fun K hK => ?_) AllReadyH.nil)
            go_simp
            refine (drewrite_no _ _ _ _ _ _ _ _ _ _ _ (hTV.keep bw) (by show 2 < _; omega) (hDV.keep bw) L7 (snoc_all hlb hZb) (snoc_all hlz (by omega)) ⟨Z, by simp, by omega⟩).mono ?_
            rintro e Y6 ⟨rfl, v6, h6, m6, hD6⟩
            have bw6 := (ab_trans bwV bw).trans (m6.below (hTV.keep bw) hWd)
            show K _ _
            refine hK.out _ _ trivial (fun hHeld => ?_)
            clear hK K m6
            refine takeH (i := 9) (some 9) rfl rfl (by kernel_rfl) (by kernel_rfl) (by kernel_rfl) (fun _ _ _ h => h) (by rfl) (fun w hSw => by (try dsimp only at hSw); go_simp; try rfl) hHeld ?_
            go_frame
            refine wpAnyH_done (by kernel_rfl) ?_ _
            go_wp2_with fail
            go_meet
            case rel => exact ⟨v6, rfl, h6, hD6, bw6⟩
        · rw [if_pos (by rfl)]
          refine lst1W (some 51) rfl rfl rfl fun v51 Y2 h6 bn => ?_
          have F6 := own_less h6 bw.size
          replace F5 := F5.keep bn
          replace bw := ab_trans bw bn
          clear h6 bn
          refine hK.out _ _ trivial (fun hHeld => ?_)
          clear hK K
          go_frame
          refine wpAnyH_ready (rs := [1]) (by kernel_rfl) (by simp) (AllReadyH.cons rfl (fun K hK => ?_) AllReadyH.nil)
          rw [if_pos (by rfl)]
          refine lst0W (some 46) rfl rfl fun v46 Y3 h1 bn => ?_
          have F1 := own_less h1 bw.size
          have SP : Sep v51 v46 := sep_lt (fun k hk => (F6.lt k hk).2) (fun k hk => (h1.lt k hk).1)
          replace F5 := F5.keep bn
          replace F6 := own_keep F6 bn
          replace bw := ab_trans bw bn
          clear h1 bn
          refine hK.out _ _ trivial (fun hHeld => ?_)
          clear hK K
          go_frame
          refine wpAnyH_ready (rs := [3]) (by kernel_rfl) (by simp) (AllReadyH.cons rfl (fun K hK => ?_) AllReadyH.nil)
          rw [if_pos (by rfl)]
          refine appLW V.heap.size (some 48) rfl rfl rfl F1 rfl (LV.keep bw) hnl (by omega) bw.size fun v48 Y4 F3 hg => ?_
          replace F5 := F5.kept hg (sep_ty F5 F1 (by decide))
          replace F6 := World.ownsRow.kept F6 hg SP.row
          replace bw := bw.trans (below_ownE F1 bw.size hg)
          clear hg F1
          refine hK.out _ _ trivial (fun hHeld => ?_)
          clear hK K
          go_frame
          refine wpAnyH_ready (rs := [7]) (by kernel_rfl) (by simp) (AllReadyH.cons rfl (fun K hK => ?_) AllReadyH.nil)
          rw [if_pos (by rfl)]
          refine appLW V.heap.size (some 52) rfl rfl rfl F3 rfl (ls_own (ls := [Z]) F6 rfl (each1 F5.sl)) rfl (by simp; omega) bw.size fun v52 Y5 F7 hg => ?_
          replace F5 := F5.kept hg (sep_ty F5 F3 (by decide))
          replace bw := bw.trans (below_ownE F3 bw.size hg)
          have L7 := fin LV bw F5.sl F7
          clear hg F3 F6 F7
          refine hK.out _ _ trivial (fun hHeld => ?_)
          clear hK K
          go_frame
          refine wpAnyH_ready (rs := [8]) (by kernel_rfl) (by simp) (AllReadyH.cons rfl (fun K hK => ?_) AllReadyH.nil)
          go_simp
          refine (drewrite_no _ _ _ _ _ _ _ _ _ _ _ (hTV.keep bw) (by show 2 < _; omega) (hDV.keep bw) L7 (snoc_all hlb hZb) (snoc_all hlz (by omega)) ⟨Z, by simp, by omega⟩).mono ?_
          rintro e Y6 ⟨rfl, v6, h6, m6, hD6⟩
          have bw6 := (ab_trans bwV bw).trans (m6.below (hTV.keep bw) hWd)
          show K _ _
          refine hK.out _ _ trivial (fun hHeld => ?_)
          clear hK K m6
          refine takeH (i := 9) (some 9) rfl rfl (by kernel_rfl) (by kernel_rfl) (by kernel_rfl) (fun _ _ _ h => h) (by rfl) (fun w hSw => by (try dsimp only at hSw); go_simp; try rfl) hHeld ?_
          go_frame
          refine wpAnyH_done (by kernel_rfl) ?_ _
          go_wp2_with fail
          go_meet
          case rel => exact ⟨v6, rfl, h6, hD6, bw6⟩
    case rest =>
      obtain ⟨v8, rfl, h8, hD8, bw8⟩ := hcut
      have c2 := h8.oct.c2
      go_wp2_with (first
        | (go_at_call 29; refine (dlen_any _ _ _ _ _ hD8).mono ?_; rintro e X ⟨rfl, hX⟩; subst X)
        | (go_at_call 30; refine (dbytes_any _ _ _ _ _ hD8).mono ?_; rintro e X ⟨rfl, hX⟩; subst X)
        | (go_at_call 33; refine (steps_any _ _ _ c2).mono ?_; rintro e X ⟨rfl, hX⟩; subst X))
      go_ret
      exact ⟨rfl, bw8⟩
  · have hli : ¬ (16376 : Int) < (m : Int) := by omega
    go_wp2_with (refine mk_by (n := m) rfl rfl rfl rfl rfl (by omega) ?_; intro v6 V6 Z6 hZ6 hB6 O6 b6)
    have h6 := h5'.keep b6
    have hD6 := hD5'.keep b6
    refine (dadd_up _ _ _ _ _ _ _ _ _ _ _ _ h6 (by omega) hD6 O6.sl hB6 (by omega) (by omega) (by omega) (by rw [HL13.out]; omega)).mono ?_
    rintro e V7 ⟨rfl, v7, h7, m7, hD7⟩
    have bw7 := (ab_trans bw5 b6).trans (m7.below h6 hWd)
    have hD8 : Blk V7 d (dcs b 2 (21 + m)) 80 := by rw [show 21 + m = 13 + (8 + Z6.length) by omega]; exact hD7
    clear O6 h5' hD5' bw5 hB6 b6 hD7 m7 h6 hD6 h7
    go_wp2_with (first
      | (go_at_call 29; refine (dlen_any _ _ _ _ _ hD8).mono ?_; rintro e X ⟨rfl, hX⟩; subst X)
      | (go_at_call 30; refine (dbytes_any _ _ _ _ _ hD8).mono ?_; rintro e X ⟨rfl, hX⟩; subst X))
    go_ret
    exact ⟨rfl, bw7⟩

theorem own : ownKnob Try.prog.godebug = none := by kernel_rfl
theorem laidOut : laidOutB Try.prog = true := by kernel_rfl

set_option maxRecDepth 100000 in
theorem lifted (os : Os) (started : os.Started) (H : Type) (enc : TypeId × Value → H) :
    ReturnsInHanded {} Try.checked os 6 .any (Rows.diaryFullSpec.pre6 enc Try.prog Try.f6 Rows.diaryFullRow.domain false) (Rows.diaryFullSpec.post enc Try.prog Try.f6 false true false false) := by
  refine returnsInHanded_of_change_sized (C := Try.checked) own started (by kernel_rfl) Try.func6
    (ChangeSpec.witness6 (enc := enc) (C := Try.checked) false ⟨#[], #[.int .i64 0, .slice none 0 0], []⟩ 8 (by kernel_rfl) (by kernel_rfl) (by kernel_rfl) (by kernel_rfl)) ?_
  intro W base args ds gs before hval0 hW hcnd hsz _
  have hval : ∀ (j : Nat) t v, Try.f6.params[j]? = some t → args[j]? = some v → Value.okWide Try.prog W .any base t v := hval0
  have hW' := hW
  obtain ⟨p, q, hA0, hV, rfl, hfz, hnd⟩ := hW
  have hA : DataW.TrodAll enc Try.prog W 0 (fun _ => true) true Try.f6.params.toList args.toList ds p := hA0
  rw [Try.params6] at hA hval
  obtain ⟨v0, vs0, d0, ds0, p0, q0, hargs, rfl, rfl, h0, r0⟩ := trodAll_cons hA
  obtain ⟨v1, vs1, d1, ds1, p1, q1, rfl, rfl, rfl, h1, r1⟩ := trodAll_cons r0
  obtain ⟨rfl, rfl, rfl⟩ := trodAll_nil r1
  obtain rfl : args = #[v0, v1] := by cases args; simp_all
  obtain ⟨rfl, rfl⟩ := trodVars_none hV
  have k0 := h0
  have lt0 : ∀ x ∈ p0, x.block < W.heap.size := by obtain ⟨m, hm⟩ := k0; exact DataW.trod_lt m _ _ _ hm
  have k1 := h1
  have lt1 : ∀ x ∈ p1, x.block < W.heap.size := by obtain ⟨m, hm⟩ := k1; exact DataW.trod_lt m _ _ _ hm
  obtain ⟨a0, rfl, rfl, rfl, w0⟩ := open_int Try.underlying3 (hval 0 3 v0 rfl rfl) h0
  obtain ⟨sq1_, sn1_, sk1_, vs1_, ls1_, rfl, Z1_⟩ := open_listsZ (hval 1 31 v1 rfl rfl) h1 (fun n hn => by simpa using List.all_eq_true.1 hsz n (DataW.weights_mem_each (j := 1) (t := 31) (by kernel_rfl) rfl n hn))
  clear hA0 hval0
  refine (walk a0 (bounds_i64 w0) sq1_ sn1_ sk1_ vs1_ ls1_ Z1_).mono fun e W' ⟨he, bel⟩ => ?_
  subst he
  exact ⟨_, rfl, _, _, _, [], _, [], hW', trodAll_mk1 (shut_bool Try.underlying4 _), (trodAll_cons_mk (Below.trod laidOut (by kernel_rfl) (of_decide_eq_true (by kernel_rfl)) k0 bel lt0) (trodAll_cons_mk (Below.trod laidOut (by kernel_rfl) (of_decide_eq_true (by kernel_rfl)) k1 bel lt1) trodAll_mk0)), rfl, bel.frame _, fun h => by cases h⟩

theorem over : Rows.diaryFullRow.holds Try.pinned (OpenSpec.ofChange Rows.diaryFullSpec) :=
  OpenClaim.holds_of_wide 6 Try.f6 rfl rfl rfl rfl rfl rfl rfl ⟨rfl, rfl, rfl, rfl, rfl⟩ rfl rfl rfl rfl rfl (by kernel_rfl) Try.func6 (by kernel_rfl)
    (of_decide_eq_true (by kernel_rfl)) (by unfold Func.isWrapper; first | (rw [if_pos (by decide +kernel)]; kernel_rfl) | (rw [if_neg (by decide +kernel)]; exact ⟨rfl, rfl⟩))
    (fun os started H enc _ => lifted os started H enc)

theorem proved : Rows.DiaryFullSaid := over
end Go.Proofs.Ytalbiggmmmkclaa.diaryFull
namespace Go.Proofs.Ytalbiggmmmkclaa
theorem diaryFull_holds : Rows.DiaryFullSaid := diaryFull.proved
#print axioms diaryFull_holds
end Go.Proofs.Ytalbiggmmmkclaa
