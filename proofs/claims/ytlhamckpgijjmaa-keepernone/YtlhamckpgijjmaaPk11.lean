/-
  Registers as numbers: ballot.Nums, the document's Nums.
  The register of numbers: ballot.Take.
  The numbers that bytes consist of: frame.Nums.
-/
import Derived.Test.YtlhamckpgijjmaaPk10
import Derived.Deep.CutRange
import Derived.Test.YtlhamckpgijjmaaPk07
namespace Go.Proofs.Ytlhamckpgijjmaa
open Go.RowKit
set_option linter.unusedVariables false
set_option maxRecDepth 100000

def nmB (b : Bt) : List Int := [b.n, b.nd, b.lf]
/-- A register's numbers. -/
def nmR (r : Rg) : List Int := (nmB r.p ++ nmB r.a) ++ r.l
def upN (p a : Bt) : Nat → List Int
  | 0 => []
  | 1 => nmB p
  | _ => nmB p ++ nmB a
theorem isl6 (a b c d e f : Int) (w : World) : (Instr.buildSlice 31 6 #[(0, .int .i64 a), (1, .int .i64 b), (2, .int .i64 c), (3, .int .i64 d), (4, .int .i64 e), (5, .int .i64 f)]).run Try.prog w = .ok (.slice (some ⟨w.heap.size, 0, none⟩) 6 6) (w.alloc (.cells (ints [a, b, c, d, e, f]).toArray 3)) := by kernel_rfl
theorem ix0 (a b c d e f : Int) (w : World) : (Instr.index 151 (.agg #[.int .i64 a, .int .i64 b, .int .i64 c, .int .i64 d, .int .i64 e, .int .i64 f]) (.int .i64 0)).run Try.prog w = .ok (.agg #[.int .i64 a, .int .i64 b, .int .i64 c]) w := by kernel_rfl
theorem ix1 (a b c d e f : Int) (w : World) : (Instr.index 151 (.agg #[.int .i64 a, .int .i64 b, .int .i64 c, .int .i64 d, .int .i64 e, .int .i64 f]) (.int .i64 1)).run Try.prog w = .ok (.agg #[.int .i64 d, .int .i64 e, .int .i64 f]) w := by kernel_rfl
set_option maxHeartbeats 1000000 in
theorem nums9_any (r : Rg) (v : Value) (w : World) (hv : Is w v r.l) (hl : r.l.length ≤ 100000) :
    Calls Try.prog 66 #[rV r.p r.a v] w fun e w' => ∃ v', e = .returned v' ∧ Io w' w.heap.size v' (nmR r) ∧ Below w.heap.size w w' := by
  obtain ⟨q, c, e⟩ := hv.form
  subst e
  obtain ⟨n, hn⟩ : ∃ n, r.l.length = n := ⟨_, rfl⟩
  rw [hn] at hv hl ⊢
  go_enter Try.func66, Try.ntmps66
  go_upto_region 1 with fail
  obtain ⟨A, hAe, hB, hw⟩ := blk1 w (rC r.p r.a (.slice q n c)) 40
  rw [hAe]
  obtain ⟨c0, c1, c2, c3, c4, c5, c6⟩ := cells7 hB
  have hbv := Below.refl A.heap.size A
  clear hAe
  go_upto_region 2 with (refine mk_own (c := 6 + n) w rfl rfl Try.underlying31 infoInt rfl rfl (by omega) (by omega) (by unfold maxLen; omega) hw ?_; intro v1 W1 own1 nn1 b1 b1'; have hbv := b1')
  have hB1 := hB.keep b1'
  go_wp2_with fail
  clear c0 c1 c2 c3 c4 c5 c6 hbv
  have hlt1 : w.heap.size < A.heap.size := hB.lt
  go_loopw [3, 16] (fun x i wr => ∃ j : Nat, j ≤ 2 ∧ i = .int .i64 (j : Int) ∧ Io wr w.heap.size x (upN r.p r.a j) ∧ Blk wr w.heap.size (rC r.p r.a (.slice q n c)) 40 ∧ Below w.heap.size w wr) (fun _ i _ => 2 - (intOf i).toNat)
  case atStart => exact ⟨0, by omega, rfl, io_of (l := []) own1, hB1, b1⟩
  case round =>
    clear own1 nn1 b1 b1' hB1
    obtain ⟨j, hj, rfl, O, hB1, hb⟩ := hrel
    have hj3 : j = 0 ∨ j = 1 ∨ j = 2 := by omega
    rcases hj3 with rfl | rfl | rfl
    · have X := ix0 r.p.n r.p.nd r.p.lf r.a.n r.a.nd r.a.lf
      have hW := ab_alloc (Below.refl wr.heap.size wr) (.cells (bC r.p) 38)
      go_wp2_with (first
        | (refine bs_own rfl rfl [r.p.n, r.p.nd, r.p.lf] (by simp only [List.map_toArray, List.map_cons, List.map_nil]; rfl) (isl3 _ _ _ _) rfl (by decide) ?_; intro V3 hN3 b3 z3; clear z3; have hc3 := ab_trans hW b3; have hb3 := ab_trans hb hc3; have O3 := O.keep hc3)
        | (at_builtin; refine app_i w rfl rfl rfl O3 rfl (own_is hN3) rfl (by show 0 + 3 ≤ _; omega) hb3 ?_; intro v4 V4 hown4 hnil4 b4 hgr4 hat4))
      exact ⟨⟨1, by omega, rfl, io_of hown4, blk_grownT (hB1.keep hc3) hgr4 (blk_own O3 (hB1.keep hc3) (by decide)), b4⟩, by simp only [intOf]; omega⟩
    · have X := ix1 r.p.n r.p.nd r.p.lf r.a.n r.a.nd r.a.lf
      have hW := ab_alloc (Below.refl wr.heap.size wr) (.cells (bC r.a) 38)
      go_wp2_with (first
        | (refine bs_own rfl rfl [r.a.n, r.a.nd, r.a.lf] (by simp only [List.map_toArray, List.map_cons, List.map_nil]; rfl) (isl3 _ _ _ _) rfl (by decide) ?_; intro V3 hN3 b3 z3; clear z3; have hc3 := ab_trans hW b3; have hb3 := ab_trans hb hc3; have O3 := O.keep hc3)
        | (at_builtin; refine app_i w rfl rfl rfl O3 rfl (own_is hN3) rfl (by show 3 + 3 ≤ _; omega) hb3 ?_; intro v4 V4 hown4 hnil4 b4 hgr4 hat4))
      exact ⟨⟨2, by omega, rfl, io_of hown4, blk_grownT (hB1.keep hc3) hgr4 (blk_own O3 (hB1.keep hc3) (by decide)), b4⟩, by simp only [intOf]; omega⟩
    · obtain ⟨c0, c1, c2, c3, c4, c5, c6⟩ := cells7 hB1
      have hbv := Below.refl wr.heap.size wr
      have hvv := hv.keep hb
      have HF : Hid ((upN r.p r.a 2 ++ r.l) = nmR r) := rfl
      go_wp2_with (at_builtin; refine app_i w rfl rfl rfl O rfl hvv hn (by show 6 + n ≤ _; omega) hb ?_; intro v4 V4 hown4 hnil4 b4 hgr4 hat4; rw [HF.out] at hown4)
      go_ret
      exact ⟨_, rfl, io_of hown4, b4⟩
end Go.Proofs.Ytlhamckpgijjmaa
namespace Go.Proofs.Ytlhamckpgijjmaa
open Go.RowKit
set_option linter.unusedVariables false

/-- The register that numbers make. -/
def tkO (l : List Int) : Rg := ⟨⟨l.getD 0 0, l.getD 1 0, l.getD 2 0⟩, ⟨l.getD 3 0, l.getD 4 0, l.getD 5 0⟩, l.drop 6⟩
def tkB (l : List Int) : Bool := decide (6 ≤ l.length) && gdR (tkO l)
def tkR (l : List Int) : Rg := if tkB l then tkO l else zR
theorem tkR_no {l : List Int} (h : tkB l = false) : tkR l = zR := by unfold tkR; rw [h]; rfl
theorem tkR_ok {l : List Int} (h : tkB l = true) : tkR l = tkO l := by unfold tkR; rw [h]; rfl
theorem tkB_short {l : List Int} (h : ¬ 6 ≤ l.length) : tkB l = false := by unfold tkB; rw [decide_eq_false h]; rfl
theorem tkB_long {l : List Int} (h : 6 ≤ l.length) : tkB l = gdR (tkO l) := by unfold tkB; rw [decide_eq_true h]; rfl
theorem zero_rg (w : World) : (zeroValue 40).run Try.prog w = .ok (.agg (rC zB zB (.slice none 0 0))) w := by kernel_rfl
theorem getD_drop3 (l : List Int) (i k : Nat) : (l.drop k).getD i 0 = l.getD (k + i) 0 := by
  rw [List.getD_eq_getElem?_getD, List.getD_eq_getElem?_getD, List.getElem?_drop]
theorem take9_short (v : Value) (l : List Int) (w : World) (hv : Is w v l) (h6 : ¬ 6 ≤ l.length) :
    Calls Try.prog 39 #[v] w fun e w' => RgE w' w.heap.size (tkR l) (.bool (tkB l)) e ∧ Below w.heap.size w w' := by
  obtain ⟨q, c, e⟩ := hv.form
  subst e
  have HB : Hid (tkB l = false) := tkB_short h6
  have h6' : (l.length : Int) < 6 := by omega
  generalize l.length = n at *
  go_enter Try.func39, Try.ntmps39
  go_upto_region 1 with fail
  obtain ⟨A, hAe, hB, hw⟩ := blk1 w (rC zB zB (.slice none 0 0)) 40
  rw [show w.alloc (.cells #[.int .i64 0, .int .i64 0, .int .i64 0, .int .i64 0, .int .i64 0, .int .i64 0, .slice none 0 0] 40) = A from hAe]
  clear hAe
  go_wp2_with (refine st_rg rfl rfl (p1 := zB) (a1 := zB) hB rfl rfl ?_; intro W5 hB5 C5)
  exact bodyPost_ret (results_c2 rfl _ _ _ 40 _ (0, 0) _ (.bool false) rfl rfl hB5 Try.underlying40 rfl (info_rg zB zB _)) rfl ⟨rge_zero _ _ _ _ _ (tkR_no HB.out) (by rw [HB.out]), ab_chg hw C5 (Nat.le_refl _)⟩
set_option maxHeartbeats 4000000 in
set_option maxRecDepth 100000 in
theorem take9_long (v : Value) (l : List Int) (w : World) (hv : Is w v l) (h6 : 6 ≤ l.length) :
    Calls Try.prog 39 #[v] w fun e w' => RgE w' w.heap.size (tkR l) (.bool (tkB l)) e ∧ Below w.heap.size w w' := by
  obtain ⟨q, c, e⟩ := hv.form
  subst e
  have hc := hv.len
  obtain ⟨n, hn⟩ : ∃ n, l.length = n := ⟨_, rfl⟩
  have HB : Hid (tkB l = gdR (tkO l)) := tkB_long h6
  obtain ⟨p0, k0⟩ : ∃ x, l.getD 0 0 = x := ⟨_, rfl⟩
  obtain ⟨p1, k1⟩ : ∃ x, l.getD 1 0 = x := ⟨_, rfl⟩
  obtain ⟨p2, k2⟩ : ∃ x, l.getD 2 0 = x := ⟨_, rfl⟩
  obtain ⟨p3, k3⟩ : ∃ x, l.getD 3 0 = x := ⟨_, rfl⟩
  obtain ⟨p4, k4⟩ : ∃ x, l.getD 4 0 = x := ⟨_, rfl⟩
  obtain ⟨p5, k5⟩ : ∃ x, l.getD 5 0 = x := ⟨_, rfl⟩
  have HB1 : Hid ((⟨l.getD 0 0, l.getD 1 0, l.getD 2 0⟩ : Bt) = ⟨p0, p1, p2⟩) := by show _ = _; rw [k0, k1, k2]
  have HB2 : Hid ((⟨(l.drop 3).getD 0 0, (l.drop 3).getD 1 0, (l.drop 3).getD 2 0⟩ : Bt) = ⟨p3, p4, p5⟩) := by show _ = _; rw [getD_drop3, getD_drop3, getD_drop3, k3, k4, k5]
  have HO : Hid (tkO l = ⟨⟨p0, p1, p2⟩, ⟨p3, p4, p5⟩, l.drop 6⟩) := by show _ = _; unfold tkO; rw [k0, k1, k2, k3, k4, k5]
  clear k0 k1 k2 k3 k4 k5
  have HD3 : Hid (3 ≤ (l.drop 3).length) := by show _ ≤ _; rw [List.length_drop]; omega
  have HG : Hid (gdN ⟨p0, p1, p2⟩ ⟨p3, p4, p5⟩ (n - 6) = gdR (tkO l)) := by show _ = _; rw [HO.out]; show _ = gdN _ _ (l.drop 6).length; rw [List.length_drop, hn]
  rw [hn] at hv h6 hc ⊢
  have h6' : ¬ (n : Int) < 6 := by omega
  obtain ⟨q3, e3⟩ := sliced_form q 3 n c
  obtain ⟨q6, e6⟩ := sliced_form q 6 n c
  go_enter Try.func39, Try.ntmps39
  go_upto_region 1 with fail
  obtain ⟨V, hAe, hB, hw⟩ := blk1 w (rC zB zB (.slice none 0 0)) 40
  rw [show w.alloc (.cells #[.int .i64 0, .int .i64 0, .int .i64 0, .int .i64 0, .int .i64 0, .int .i64 0, .slice none 0 0] 40) = V from hAe]
  clear hAe
  have hvV := hv.keep hw
  have i3 : Is V (.slice q3 (n - 3) (c - 3)) (l.drop 3) := by
    have := hvV.sub (i := 3) (j := n) (sc := c) (by omega) (by omega) (Nat.le_refl _) (by omega) e3.symm
    rwa [List.take_of_length_le (by rw [List.length_drop]; omega)] at this
  have i6 : Is V (.slice q6 (n - 6) (c - 6)) (l.drop 6) := by
    have := hvV.sub (i := 6) (j := n) (sc := c) (by omega) (by omega) (Nat.le_refl _) (by omega) e6.symm
    rwa [List.take_of_length_le (by rw [List.length_drop]; omega)] at this
  have hzV : w.heap.size < V.heap.size := hB.lt
  go_upto_region 3 with fail
  go_cut [4] from 9 to 16 (fun x wc => ∃ g, x = .pointer (some ⟨g, 0, none⟩) ∧ V.heap.size ≤ g ∧ Blk wc g (rC ⟨p0, p1, p2⟩ ⟨p3, p4, p5⟩ (.slice q6 (n - 6) (c - 6))) 40 ∧ Below V.heap.size V wc)
  case first =>
    refine wp_region_held_drew (S := fun w' => Below V.heap.size V w') (by kernel_rfl) (ab_drew (Below.refl _ _)) (fun hHeld => ?_)
    refine takeH (i := 0) (some 9) rfl rfl (by kernel_rfl) (by kernel_rfl) (by kernel_rfl) (fun _ _ _ h => h) (by rfl) (fun w hSw => by (try dsimp only at hSw); go_simp; try rfl) hHeld ?_
    go_frame
    refine takeH (i := 2) (some 11) rfl rfl (by kernel_rfl) (by kernel_rfl) (by kernel_rfl) (fun _ _ _ h => h) (by rfl) (fun w hSw => by (try dsimp only at hSw); go_simp; try rfl) hHeld ?_
    go_frame
    refine takeH (i := 3) (some 12) rfl rfl (by kernel_rfl) (by kernel_rfl) (by kernel_rfl) (fun _ _ _ h => h) (by rfl) (fun w hSw => by (try dsimp only at hSw); exact (sli_l_run (i := 3) rfl rfl rfl rfl (by omega) (by omega)).trans (by rw [e3])) hHeld ?_
    go_frame
    refine takeH (i := 5) (some 14) rfl rfl (by kernel_rfl) (by kernel_rfl) (by kernel_rfl) (fun _ _ _ h => h) (by rfl) (fun w hSw => by (try dsimp only at hSw); go_simp; try rfl) hHeld ?_
    go_frame
    refine takeH (i := 6) (some 15) rfl rfl (by kernel_rfl) (by kernel_rfl) (by kernel_rfl) (fun _ _ _ h => h) (by rfl) (fun w hSw => by (try dsimp only at hSw); exact (sli_l_run (i := 6) rfl rfl rfl rfl (by omega) (by omega)).trans (by rw [e6])) hHeld ?_
    go_frame
    refine wpAnyH_ready (rs := [1, 8]) (by kernel_rfl) (by simp) (AllReadyH.cons rfl (fun K hK => ?_) (AllReadyH.cons rfl (fun K hK => ?_) AllReadyH.nil))
    · go_simp
      refine (ballotOf_any _ l _ (hvV.keep hHeld) (by omega)).mono ?_
      rintro e X1 ⟨rfl, bx1⟩
      rw [HB1.out]
      show K _ _
      refine hK.out _ _ (ab_trans hHeld bx1) (fun hHeld => ?_)
      clear hK K
      refine wpAnyH_ready (rs := [4, 8]) (by kernel_rfl) (by simp) (AllReadyH.cons rfl (fun K hK => ?_) (AllReadyH.cons rfl (fun K hK => ?_) AllReadyH.nil))
      · go_simp
        refine (ballotOf_any _ (l.drop 3) _ (i3.keep hHeld) HD3.out).mono ?_
        rintro e X4 ⟨rfl, bx4⟩
        rw [HB2.out]
        show K _ _
        refine hK.out _ _ (ab_trans hHeld bx4) (fun hHeld => ?_)
        clear hK K
        refine takeH (i := 7) (some 16) rfl rfl (by kernel_rfl) (by kernel_rfl) (by kernel_rfl) (fun _ _ _ h => h) (by rfl) (fun w hSw => by (try dsimp only at hSw); go_simp; try rfl) hHeld ?_
        go_frame
        refine wpAnyH_ready (rs := [8]) (by kernel_rfl) (by simp) (AllReadyH.cons rfl (fun K hK => ?_) AllReadyH.nil)
        rw [if_pos (by rfl)]
        refine alW (some 4) rfl rfl (rC zB zB (.slice none 0 0)) (zero_rg _) fun X8 hG bx8 => ?_
        have hge := hHeld.size
        refine hK.out _ _ (ab_trans hHeld bx8) (fun hHeld => ?_)
        clear hK K
        go_frame
        refine wpAnyH_ready (rs := [9]) (by kernel_rfl) (by simp) (AllReadyH.cons rfl (fun K hK => ?_) AllReadyH.nil)
        rw [if_pos (by rfl)]
        refine stW none rfl rfl hG rfl rfl (info_rg ⟨p0, p1, p2⟩ ⟨p3, p4, p5⟩ (.slice q6 (n - 6) (c - 6))) rfl (rg_one ⟨p0, p1, p2⟩ ⟨p3, p4, p5⟩ _ _ _) fun X9 hG9 C9 => ?_
        have hb9 := hHeld.trans (C9.below hge)
        refine hK.out _ _ hb9 (fun hHeld => ?_)
        clear hK K
        refine wpAnyH_done (by kernel_rfl) ?_ _
        go_wp2_with fail
        go_meet
        case rel => exact ⟨_, rfl, hge, hG9, hb9⟩
      · rw [if_pos (by rfl)]
        refine alW (some 4) rfl rfl (rC zB zB (.slice none 0 0)) (zero_rg _) fun X8 hG bx8 => ?_
        have hge := hHeld.size
        refine hK.out _ _ (ab_trans hHeld bx8) (fun hHeld => ?_)
        clear hK K
        go_frame
        refine wpAnyH_ready (rs := [4]) (by kernel_rfl) (by simp) (AllReadyH.cons rfl (fun K hK => ?_) AllReadyH.nil)
        go_simp
        refine (ballotOf_any _ (l.drop 3) _ (i3.keep hHeld) HD3.out).mono ?_
        rintro e X4 ⟨rfl, bx4⟩
        rw [HB2.out]
        show K _ _
        refine hK.out _ _ (ab_trans hHeld bx4) (fun hHeld => ?_)
        clear hK K
        have hG := hG.keep bx4
        refine takeH (i := 7) (some 16) rfl rfl (by kernel_rfl) (by kernel_rfl) (by kernel_rfl) (fun _ _ _ h => h) (by rfl) (fun w hSw => by (try dsimp only at hSw); go_simp; try rfl) hHeld ?_
        go_frame
        refine wpAnyH_ready (rs := [9]) (by kernel_rfl) (by simp) (AllReadyH.cons rfl (fun K hK => ?_) AllReadyH.nil)
        rw [if_pos (by rfl)]
        refine stW none rfl rfl hG rfl rfl (info_rg ⟨p0, p1, p2⟩ ⟨p3, p4, p5⟩ (.slice q6 (n - 6) (c - 6))) rfl (rg_one ⟨p0, p1, p2⟩ ⟨p3, p4, p5⟩ _ _ _) fun X9 hG9 C9 => ?_
        have hb9 := hHeld.trans (C9.below hge)
        refine hK.out _ _ hb9 (fun hHeld => ?_)
        clear hK K
        refine wpAnyH_done (by kernel_rfl) ?_ _
        go_wp2_with fail
        go_meet
        case rel => exact ⟨_, rfl, hge, hG9, hb9⟩
    · rw [if_pos (by rfl)]
      refine alW (some 4) rfl rfl (rC zB zB (.slice none 0 0)) (zero_rg _) fun X8 hG bx8 => ?_
      have hge := hHeld.size
      refine hK.out _ _ (ab_trans hHeld bx8) (fun hHeld => ?_)
      clear hK K
      go_frame
      refine wpAnyH_ready (rs := [1]) (by kernel_rfl) (by simp) (AllReadyH.cons rfl (fun K hK => ?_) AllReadyH.nil)
      go_simp
      refine (ballotOf_any _ l _ (hvV.keep hHeld) (by omega)).mono ?_
      rintro e X1 ⟨rfl, bx1⟩
      rw [HB1.out]
      show K _ _
      refine hK.out _ _ (ab_trans hHeld bx1) (fun hHeld => ?_)
      clear hK K
      refine wpAnyH_ready (rs := [4]) (by kernel_rfl) (by simp) (AllReadyH.cons rfl (fun K hK => ?_) AllReadyH.nil)
      go_simp
      refine (ballotOf_any _ (l.drop 3) _ (i3.keep hHeld) HD3.out).mono ?_
      rintro e X4 ⟨rfl, bx4⟩
      rw [HB2.out]
      show K _ _
      refine hK.out _ _ (ab_trans hHeld bx4) (fun hHeld => ?_)
      clear hK K
      have hG := hG.keep bx1
      have hG := hG.keep bx4
      refine takeH (i := 7) (some 16) rfl rfl (by kernel_rfl) (by kernel_rfl) (by kernel_rfl) (fun _ _ _ h => h) (by rfl) (fun w hSw => by (try dsimp only at hSw); go_simp; try rfl) hHeld ?_
      go_frame
      refine wpAnyH_ready (rs := [9]) (by kernel_rfl) (by simp) (AllReadyH.cons rfl (fun K hK => ?_) AllReadyH.nil)
      rw [if_pos (by rfl)]
      refine stW none rfl rfl hG rfl rfl (info_rg ⟨p0, p1, p2⟩ ⟨p3, p4, p5⟩ (.slice q6 (n - 6) (c - 6))) rfl (rg_one ⟨p0, p1, p2⟩ ⟨p3, p4, p5⟩ _ _ _) fun X9 hG9 C9 => ?_
      have hb9 := hHeld.trans (C9.below hge)
      refine hK.out _ _ hb9 (fun hHeld => ?_)
      clear hK K
      refine wpAnyH_done (by kernel_rfl) ?_ _
      go_wp2_with fail
      go_meet
      case rel => exact ⟨_, rfl, hge, hG9, hb9⟩
  case rest =>
    obtain ⟨g, rfl, hge, hG, bV⟩ := hcut
    have hB1 := hB.keep bV
    obtain ⟨c0, c1, c2, c3, c4, c5, c6⟩ := cells7 hG
    have hbv := Below.refl wc.heap.size wc
    clear hB
    go_wp2_with fail
    refine (good9_any ⟨p0, p1, p2⟩ ⟨p3, p4, p5⟩ q6 (n - 6) (c - 6) _).mono ?_
    rintro e W1 ⟨rfl, b1⟩
    rw [HG.out]
    have hbv := ab_trans hbv b1
    have hB2 := hB1.keep hbv
    cases h1 : gdR (tkO l)
    · rw [h1] at HB
      have hwv := ab_trans hw (ab_trans bV hbv)
      clear hB1
      go_wp2_with (refine st_rg rfl rfl (p1 := zB) (a1 := zB) hB2 rfl rfl ?_; intro W5 hB5 C5)
      exact bodyPost_ret (results_c2 rfl _ _ _ 40 _ (0, 0) _ (.bool false) rfl rfl hB5 Try.underlying40 rfl (info_rg zB zB _)) rfl ⟨rge_zero _ _ _ _ _ (tkR_no HB.out) (by rw [HB.out]), ab_chg hwv C5 (Nat.le_refl _)⟩
    · rw [h1] at HB
      have HL : Hid ((l.drop 6).length ≤ 32) := by have := gd_le h1; rw [HO.out] at this; exact this
      have i6v := i6.keep (ab_trans bV hbv)
      have HL6 : Hid ((l.drop 6).length = n - 6) := by show _ = _; rw [List.length_drop, hn]
      have hwv := ab_trans hw (ab_trans bV hbv)
      have hG1 := hG.keep hbv
      have hzz : g < W1.heap.size := hG1.lt
      have hne : w.heap.size ≠ g := by omega
      clear hB1 hG hvV hv i3 i6
      generalize n - 6 = m at *
      generalize c - 6 = cc at *
      go_wp2_with fail
      refine (bclone_any _ (l.drop 6) _ i6v (by have := HL.out; omega)).mono ?_
      rintro e W2 ⟨v2, rfl, hO2, b2⟩
      obtain ⟨q2, k2, e2⟩ := hO2.is.form
      rw [HL6.out] at e2
      subst e2
      have hG2 := hG1.keep b2
      have hB3 := hB2.keep b2
      have hw2 := ab_trans hwv b2
      have f6 := hG2.frozen 6
      have y6 : W2.cell? ⟨g, 6, none⟩ = some (.slice q6 m cc) := hG2.at rfl
      clear c0 c1 c2 c3 c4 c5 c6 hbv
      go_upto_region 7 with fail
      have hG3 : Blk _ g (rC ⟨p0, p1, p2⟩ ⟨p3, p4, p5⟩ (.slice q2 m k2)) 40 := hG2.set 6 (.slice q2 m k2)
      have C3 := chg_set W2 g 6 (.slice q2 m k2)
      have hB4 := hB3.chg C3 hne
      have hw3 := ab_chg hw2 C3 (by omega)
      have hO3 : Io _ W1.heap.size (.slice q2 m k2) (l.drop 6) := io_chg hO2 C3 hzz
      clear hG2 hB3 hw2 hO2 f6 y6 C3
      generalize W2.setCell ⟨g, 6, none⟩ (.slice q2 m k2) = W3 at *
      obtain ⟨c0, c1, c2, c3, c4, c5, c6⟩ := cells7 hG3
      have hbv := Below.refl W3.heap.size W3
      go_wp2_with (refine st_rg rfl rfl (p1 := ⟨p0, p1, p2⟩) (a1 := ⟨p3, p4, p5⟩) hB4 rfl rfl ?_; intro W5 hB5 C5)
      have hO5 : Io W5 W1.heap.size (.slice q2 m k2) (l.drop 6) := io_chg hO3 C5 (by omega)
      exact bodyPost_ret (results_c2 rfl _ _ _ 40 _ (0, 0) _ (.bool true) rfl rfl hB5 Try.underlying40 rfl (info_rg ⟨p0, p1, p2⟩ ⟨p3, p4, p5⟩ _)) rfl ⟨rge_of _ _ _ ((tkR_ok HB.out).trans HO.out) (by rw [HB.out]) (hO5.less (by omega)), ab_chg hw3 C5 (Nat.le_refl _)⟩
theorem take9_any (v : Value) (l : List Int) (w : World) (hv : Is w v l) :
    Calls Try.prog 39 #[v] w fun e w' => RgE w' w.heap.size (tkR l) (.bool (tkB l)) e ∧ Below w.heap.size w w' := by
  by_cases h : 6 ≤ l.length
  · exact take9_long v l w hv h
  · exact take9_short v l w hv h
end Go.Proofs.Ytlhamckpgijjmaa
namespace Go.Proofs.Ytlhamckpgijjmaa
open Go.RowKit
set_option linter.unusedVariables false

/-- The numbers that bytes consist of. -/
def nus (b : List Nat) : Option (List Int) := if b = [] then some [] else if h : nOK b = true then (nus (b.drop (nS b))).map (nV b :: ·) else none
termination_by b.length
decreasing_by
  have := nS_le h
  rw [List.length_drop]
  omega
theorem nus_nil : nus [] = some [] := by rw [nus, if_pos rfl]
theorem nOK_ne {b : List Nat} (h : nOK b = true) : b ≠ [] := by
  intro e
  subst e
  simp [nOK] at h
theorem nus_go {b : List Nat} (h : nOK b = true) : nus b = (nus (b.drop (nS b))).map (nV b :: ·) := by rw [nus, if_neg (nOK_ne h), dif_pos h]
theorem nus_no {b : List Nat} (h0 : b ≠ []) (h : nOK b = false) : nus b = none := by rw [nus, if_neg h0, dif_neg (by simp [h])]
theorem nus_put (ns : List Int) (h : In64 ns) : nus (numsB ns) = some ns := by
  induction ns with
  | nil => exact nus_nil
  | cons n r ih =>
    have h1 := h n (List.mem_cons_self ..)
    obtain ⟨a, b, c⟩ := num_put n (numsB r) h1.1 h1.2
    have e : numsB (n :: r) = numB n ++ numsB r := by simp [numsB]
    rw [e, nus_go a, b, c, List.drop_append_of_le_length (Nat.le_refl _), List.drop_length, List.nil_append, ih (fun x hx => h x (List.mem_cons_of_mem _ hx))]
    rfl
/-- At most so many. -/
def numsR (b : List Nat) (most : Int) : Option (List Int) := (nus b).bind fun r => if 0 < r.length ∧ most < (r.length : Int) then none else some r
theorem numsR_some {b : List Nat} {most : Int} {done : List Int} (h : nus b = some done) (hm : done = [] ∨ (done.length : Int) ≤ most) : numsR b most = some done := by
  rw [numsR, h, Option.bind_some, if_neg]
  rintro ⟨h1, h2⟩
  rcases hm with rfl | hm
  · simp at h1
  · omega
theorem numsR_none {b : List Nat} {most : Int} (h : nus b = none) : numsR b most = none := by rw [numsR, h, Option.bind_none]
theorem numsR_full {b rest : List Nat} {most : Int} {done : List Int} (h : nus b = (nus rest).map (done ++ ·)) (hok : nOK rest = true) (hm : most ≤ (done.length : Int)) : numsR b most = none := by
  rw [numsR, h, nus_go hok]
  cases nus (rest.drop (nS rest)) with
  | none => rfl
  | some r =>
    simp only [Option.map_some, Option.bind_some]
    rw [if_pos]
    simp
    omega
theorem nus_step {b rest : List Nat} {done : List Int} (h : nus b = (nus rest).map (done ++ ·)) (hok : nOK rest = true) : nus b = (nus (rest.drop (nS rest))).map ((done ++ [nV rest]) ++ ·) := by
  rw [h, nus_go hok]
  cases nus (rest.drop (nS rest)) with
  | none => rfl
  | some r => simp
/-- What Nums answers. -/
structure NP (W : World) (base : Nat) (r : Option (List Int)) (e : Ending) : Prop where
  some : ∀ x, r = some x → ∃ v', e = .returned (.tuple #[v', .nilIface]) ∧ Io W base v' x
  none : r = none → e = .returned (.tuple #[.slice none 0 0, Err 3])
/-- How long a slice is. -/
def slLen : Value → Nat
  | .slice _ n _ => n
  | _ => 0
theorem Sl.slLen {W : World} {v : Value} {l : List Nat} (h : Sl W v l) : slLen v = l.length := by
  obtain ⟨q, cap, rfl, _⟩ := h
  rfl
theorem Io.form {W : World} {base : Nat} {v : Value} {l : List Int} (h : Io W base v l) : ∃ q cap, v = .slice q l.length cap := by
  obtain ⟨q, cap, g, off, e, _⟩ := h.is
  exact ⟨q, cap, e⟩

section
variable {ops : Array Oper} {rest : List Oper} {o : Oper} {a : Act} {w : World} {Q : Exit → Act → World → Prop}
/-- 'b[i:]' of bytes that an earlier world holds. -/
theorem slb_l' (V : World) (hw : Region.wanted o (yielded ops a.tmps) = true) {x y : Operand} (ho : o.op = .slice 59 x (some y) none none) {q : Option Addr} {n cap : Nat} {I : Int} {ki : IntKind} {l : List Nat} (i : Nat)
    (hx : a.eval x = .slice q n cap) (hy : a.eval y = .int ki I) (hI : I = (i : Int)) (h1 : i ≤ n) (hsl : Sl V (.slice q n cap) l)
    (hK : ∀ q', Sl V (.slice q' (n - i) (cap - i)) (l.drop i) → wpList Try.prog ops Q rest (a.put o.dst (.slice q' (n - i) (cap - i))) w) : wpList Try.prog ops Q (o :: rest) a w := by
  have hc := hsl.len
  obtain ⟨q', e⟩ := sliced_form q i n cap
  have hr := slb_l_run (w := w) ho hx hy hI h1 hc.2.1
  rw [e] at hr
  refine valS hw _ hr (hK q' ?_)
  have := hsl.sub h1 (Nat.le_refl _) (Nat.le_refl _) hc.2.1 e.symm
  rwa [List.take_of_length_le (by rw [List.length_drop]; omega)] at this
end
set_option maxHeartbeats 1000000 in
theorem fnums_any (v : Value) (l : List Nat) (most : Int) (w : World) (hv : Sl w v l) (hb : Byt l) (hl : l.length ≤ 100000) :
    Calls Try.prog 38 #[v, .int .i64 most] w fun e w' => NP w' w.heap.size (numsR l most) e ∧ Below w.heap.size w w' := by
  obtain ⟨q, cap, e, -⟩ := id hv
  subst e
  generalize hn : l.length = n at *
  go_enter Try.func38, Try.ntmps38
  go_wp2_with fail
  go_loopw [0, 6] (fun x y wr => ∃ rest done, Sl w x rest ∧ Byt rest ∧ Io wr w.heap.size y done ∧ nus l = (nus rest).map (done ++ ·) ∧ (done = [] ∨ (done.length : Int) ≤ most) ∧ done.length + rest.length ≤ n ∧ Below w.heap.size w wr) (fun x _ _ => slLen x)
  case atStart => exact ⟨l, [], hv, hb, io_of (World.ownsRow_nil w _ _ _), by simp, .inl rfl, by simp [hn], Below.refl _ _⟩
  case round =>
    obtain ⟨rest, done, S, B, O, HN, HM, hlen, hbw⟩ := hrel
    obtain ⟨q2, cap2, e, -⟩ := id S
    subst e
    have Sr := S.keep hbw
    obtain ⟨q3, cap3, e⟩ := O.form
    subst e
    have HN' : Hid (nus l = (nus rest).map (done ++ ·)) := HN
    have HM' : Hid (done = [] ∨ (done.length : Int) ≤ most) := HM
    clear HN HM
    by_cases c : rest = []
    · subst c
      have HR : Hid (numsR l most = some done) := numsR_some (by rw [HN'.out, nus_nil]; simp) HM'.out
      go_wp2_with fail
      go_ret2
      refine ⟨⟨fun x hx => ?_, fun hx => by rw [HR.out] at hx; cases hx⟩, hbw⟩
      rw [HR.out] at hx
      cases hx
      exact ⟨_, rfl, O⟩
    · have hpos : 0 < rest.length := List.length_pos_iff.2 c
      generalize hr : rest.length = m at *
      generalize hd : done.length = k at *
      have hmi : (0 : Int) < (m : Int) := by omega
      cases hok : nOK rest with
      | false =>
        have HR : Hid (numsR l most = none) := numsR_none (by rw [HN'.out, nus_no c hok]; rfl)
        go_wp2_with (go_at_call 53; refine (number_no _ _ _ Sr B hok).mono ?_; rintro e W2 ⟨rfl, rfl⟩)
        go_ret2
        exact ⟨⟨fun x hx => (by rw [HR.out] at hx; cases hx), fun _ => rfl⟩, hbw⟩
      | true =>
        by_cases hmost : most ≤ (k : Int)
        · have HR : Hid (numsR l most = none) := numsR_full HN'.out hok (by rw [hd]; exact hmost)
          go_wp2_with (go_at_call 53; refine (number_ok _ _ _ Sr B hok).mono ?_; rintro e W2 ⟨rfl, rfl⟩)
          go_ret2
          exact ⟨⟨fun x hx => (by rw [HR.out] at hx; cases hx), fun _ => rfl⟩, hbw⟩
        · have HS : Hid (nus l = (nus (rest.drop (nS rest))).map ((done ++ [nV rest]) ++ ·)) := nus_step HN'.out hok
          have hnS := nS_le hok
          have hbd := B.drop (nS rest)
          have HL : Hid ((rest.drop (nS rest)).length = m - nS rest) := by show _ = _; rw [List.length_drop, hr]
          have HD : Hid ((done ++ [nV rest]).length = k + 1) := by show _ = _; rw [List.length_append, hd]; rfl
          have HK : Hid (done.length + 1 ≤ 1000000) := by show _ ≤ _; omega
          have HNO : Hid (∀ W, Sl W (.slice q2 m cap2) rest → Calls Try.prog 53 #[.slice q2 m cap2] W fun e w' => e = .returned (.tuple #[.int .i64 (nV rest), .int .i64 ((nS rest : Nat) : Int), .bool true]) ∧ w' = W) := fun W h => number_ok _ _ W h B hok
          rw [hr] at hnS
          generalize hV : nV rest = x at *
          generalize hSz : nS rest = sz at *
          clear hok
          go_upto_region 6 with (go_at_call 53; refine (HNO.out _ Sr).mono ?_; rintro e W2 ⟨rfl, rfl⟩)
          have O2 : W2.ownsRow w.heap.size 3 1 (.slice q3 k cap3) k (ints done) := by
            have := O
            unfold Io at this
            rwa [hd] at this
          go_wp2_with (first
            | (refine bs_own rfl rfl [x] (by simp only [List.map_toArray, List.map_cons, List.map_nil]; rfl) (isl1 _ _) rfl (by decide) ?_; intro V3 hN3 hb3 z3)
            | (at_builtin; refine app_i _ rfl rfl rfl (own_keep O2 hb3) rfl (own_is hN3) rfl (by show k + 1 ≤ _; omega) (ab_trans hbw hb3) ?_; intro v4 V4 hown4 hnil4 hb4 hgr4 hat4)
            | (refine slb_l' w rfl rfl sz rfl rfl rfl hnS.1 S ?_; intro q5 s5))
          refine ⟨⟨rest.drop sz, done ++ [x], s5, hbd, io_of hown4, HS.out, .inr ?_, ?_, hb4⟩, ?_⟩
          · rw [HD.out]; omega
          · rw [HD.out, HL.out]; omega
          · simp only [slLen]; omega
end Go.Proofs.Ytlhamckpgijjmaa
