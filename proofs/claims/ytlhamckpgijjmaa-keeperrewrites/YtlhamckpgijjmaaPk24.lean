/-
  The answers of Prepare and Accept one by one; the chapter's example: estuarylaw09.alive.
  Registers as numbers: ballot.Nums, the document's Nums.
  The register of numbers: ballot.Take.
-/
import Derived.Test.YtlhamckpgijjmaaPk23
import Derived.Lib.SmallJoins
import Derived.Deep.CutRange
namespace Go.Proofs.Ytlhamckpgijjmaa
open Go.RowKit
set_option linter.unusedVariables false

theorem prepare_ok (r : Rg) (b : Bt) (v : Value) (w : World) (hv : Is w v r.l) (h : prN r b = 0) :
    Calls Try.prog 43 #[rV r.p r.a v, bV b] w fun e w' => ∃ q c, e = .returned (.tuple #[rV b r.a (.slice q r.l.length c), .nilIface]) ∧ Io w' w.heap.size (.slice q r.l.length c) r.l ∧ Below w.heap.size w w' := by
  refine (prepare_any r b v w hv).mono ?_
  rintro e w' ⟨⟨q, n, c, rfl, hO, hn⟩, hb⟩
  rw [prR_ok h] at hO hn ⊢
  rw [errV_ok h]
  dsimp only at hn
  subst hn
  exact ⟨q, c, rfl, hO, hb⟩
theorem prepare_no (r : Rg) (b : Bt) (v : Value) (w : World) (k : Nat) (hv : Is w v r.l) (h : prN r b = k) (hk : k ≠ 0) :
    Calls Try.prog 43 #[rV r.p r.a v, bV b] w fun e w' => ∃ q c, e = .returned (.tuple #[rV zB zB (.slice q 0 c), Err k]) ∧ Io w' w.heap.size (.slice q 0 c) [] ∧ Below w.heap.size w w' := by
  refine (prepare_any r b v w hv).mono ?_
  rintro e w' ⟨⟨q, n, c, rfl, hO, hn⟩, hb⟩
  rw [prR_no (by omega)] at hO hn ⊢
  rw [errV_no (by omega), h]
  have : n = 0 := hn.symm
  subst this
  exact ⟨q, c, rfl, hO, hb⟩
theorem accept_ok (r : Rg) (b : Bt) (m : List Int) (v u : Value) (w : World) (hv : Is w v r.l) (hu : Is w u m) (h : acN r b m = 0) :
    Calls Try.prog 42 #[rV r.p r.a v, bV b, u] w fun e w' => ∃ q c, e = .returned (.tuple #[rV b b (.slice q m.length c), .nilIface]) ∧ Io w' w.heap.size (.slice q m.length c) m ∧ Below w.heap.size w w' := by
  refine (accept_any r b v u m w hv hu).mono ?_
  rintro e w' ⟨⟨q, n, c, rfl, hO, hn⟩, hb⟩
  rw [acR_ok h] at hO hn ⊢
  rw [errV_ok h]
  dsimp only at hn
  subst hn
  exact ⟨q, c, rfl, hO, hb⟩
theorem accept_no (r : Rg) (b : Bt) (m : List Int) (v u : Value) (w : World) (k : Nat) (hv : Is w v r.l) (hu : Is w u m) (h : acN r b m = k) (hk : k ≠ 0) :
    Calls Try.prog 42 #[rV r.p r.a v, bV b, u] w fun e w' => ∃ q c, e = .returned (.tuple #[rV zB zB (.slice q 0 c), Err k]) ∧ Io w' w.heap.size (.slice q 0 c) [] ∧ Below w.heap.size w w' := by
  refine (accept_any r b v u m w hv hu).mono ?_
  rintro e w' ⟨⟨q, n, c, rfl, hO, hn⟩, hb⟩
  rw [acR_no (by omega)] at hO hn ⊢
  rw [errV_no (by omega), h]
  have : n = 0 := hn.symm
  subst this
  exact ⟨q, c, rfl, hO, hb⟩
theorem eqBB (w : World) : (binOp .eql 28 (Err 11) (Err 11)).run Try.prog w = .ok (.bool true) w := by kernel_rfl
theorem eqN0 (w : World) : (binOp .eql 28 .nilIface .nilIface).run Try.prog w = .ok (.bool true) w := by kernel_rfl
def b100 : Bt := ⟨1, 0, 0⟩
def b099 : Bt := ⟨0, 9, 9⟩
def b101 : Bt := ⟨1, 0, 1⟩
theorem ex_1 : prN zR b100 = 0 := by decide +kernel
theorem ex_2 : acN ⟨b100, zB, []⟩ b100 [7] = 0 := by decide +kernel
theorem ex_3 : prN ⟨b100, b100, [7]⟩ b100 = 11 := by decide +kernel
theorem ex_4 : acN ⟨b100, b100, [7]⟩ b099 [] = 11 := by decide +kernel
theorem ex_5 : prN ⟨b100, b100, [7]⟩ b101 = 0 := by decide +kernel
end Go.Proofs.Ytlhamckpgijjmaa
namespace Go.Proofs.Ytlhamckpgijjmaa
open Go.RowKit
set_option linter.unusedVariables false
set_option maxRecDepth 100000

def nmB (b : Bt) : List Int := [b.n, b.nd, b.lf]
/-- A register's numbers. -/
def nmR (r : Rg) : List Int := (nmB r.p ++ nmB r.a) ++ r.l
def upN (p a : Bt) : Nat → List Int
  | 0 => []
  | 1 => nmB p
  | _ => nmB p ++ nmB a
theorem isl6 (a b c d e f : Int) (w : World) : (Instr.buildSlice 31 6 #[(0, .int .i64 a), (1, .int .i64 b), (2, .int .i64 c), (3, .int .i64 d), (4, .int .i64 e), (5, .int .i64 f)]).run Try.prog w = .ok (.slice (some ⟨w.heap.size, 0, none⟩) 6 6) (w.alloc (.cells (ints [a, b, c, d, e, f]).toArray 3)) := by kernel_rfl
theorem ix0 (a b c d e f : Int) (w : World) : (Instr.index 151 (.agg #[.int .i64 a, .int .i64 b, .int .i64 c, .int .i64 d, .int .i64 e, .int .i64 f]) (.int .i64 0)).run Try.prog w = .ok (.agg #[.int .i64 a, .int .i64 b, .int .i64 c]) w := by kernel_rfl
theorem ix1 (a b c d e f : Int) (w : World) : (Instr.index 151 (.agg #[.int .i64 a, .int .i64 b, .int .i64 c, .int .i64 d, .int .i64 e, .int .i64 f]) (.int .i64 1)).run Try.prog w = .ok (.agg #[.int .i64 d, .int .i64 e, .int .i64 f]) w := by kernel_rfl
set_option maxHeartbeats 1000000 in
theorem nums9_any (r : Rg) (v : Value) (w : World) (hv : Is w v r.l) (hl : r.l.length ≤ 100000) :
    Calls Try.prog 66 #[rV r.p r.a v] w fun e w' => ∃ v', e = .returned v' ∧ Io w' w.heap.size v' (nmR r) ∧ Below w.heap.size w w' := by
  obtain ⟨q, c, e⟩ := hv.form
  subst e
  obtain ⟨n, hn⟩ : ∃ n, r.l.length = n := ⟨_, rfl⟩
  rw [hn] at hv hl ⊢
  go_enter Try.func66, Try.ntmps66
  go_upto_region 1 with fail
  obtain ⟨A, hAe, hB, hw⟩ := blk1 w (rC r.p r.a (.slice q n c)) 40
  rw [hAe]
  obtain ⟨c0, c1, c2, c3, c4, c5, c6⟩ := cells7 hB
  have hbv := Below.refl A.heap.size A
  clear hAe
  go_upto_region 2 with (refine mk_own (c := 6 + n) w rfl rfl Try.underlying31 infoInt rfl rfl (by omega) (by omega) (by unfold maxLen; omega) hw ?_; intro v1 W1 own1 nn1 b1 b1'; have hbv := b1')
  have hB1 := hB.keep b1'
  go_wp2_with fail
  clear c0 c1 c2 c3 c4 c5 c6 hbv
  have hlt1 : w.heap.size < A.heap.size := hB.lt
  go_loopw [3, 16] (fun x i wr => ∃ j : Nat, j ≤ 2 ∧ i = .int .i64 (j : Int) ∧ Io wr w.heap.size x (upN r.p r.a j) ∧ Blk wr w.heap.size (rC r.p r.a (.slice q n c)) 40 ∧ Below w.heap.size w wr) (fun _ i _ => 2 - (intOf i).toNat)
  case atStart => exact ⟨0, by omega, rfl, io_of (l := []) own1, hB1, b1⟩
  case round =>
    clear own1 nn1 b1 b1' hB1
    obtain ⟨j, hj, rfl, O, hB1, hb⟩ := hrel
    have hj3 : j = 0 ∨ j = 1 ∨ j = 2 := by omega
    rcases hj3 with rfl | rfl | rfl
    · have X := ix0 r.p.n r.p.nd r.p.lf r.a.n r.a.nd r.a.lf
      have hW := ab_alloc (Below.refl wr.heap.size wr) (.cells (bC r.p) 38)
      go_wp2_with (first
        | (refine bs_own rfl rfl [r.p.n, r.p.nd, r.p.lf] (by simp only [List.map_toArray, List.map_cons, List.map_nil]; rfl) (isl3 _ _ _ _) rfl (by decide) ?_; intro V3 hN3 b3 z3; clear z3; have hc3 := ab_trans hW b3; have hb3 := ab_trans hb hc3; have O3 := O.keep hc3)
        | (at_builtin; refine app_i w rfl rfl rfl O3 rfl (own_is hN3) rfl (by show 0 + 3 ≤ _; omega) hb3 ?_; intro v4 V4 hown4 hnil4 b4 hgr4 hat4))
      exact ⟨⟨1, by omega, rfl, io_of hown4, blk_grownT (hB1.keep hc3) hgr4 (blk_own O3 (hB1.keep hc3) (by decide)), b4⟩, by simp only [intOf]; omega⟩
    · have X := ix1 r.p.n r.p.nd r.p.lf r.a.n r.a.nd r.a.lf
      have hW := ab_alloc (Below.refl wr.heap.size wr) (.cells (bC r.a) 38)
      go_wp2_with (first
        | (refine bs_own rfl rfl [r.a.n, r.a.nd, r.a.lf] (by simp only [List.map_toArray, List.map_cons, List.map_nil]; rfl) (isl3 _ _ _ _) rfl (by decide) ?_; intro V3 hN3 b3 z3; clear z3; have hc3 := ab_trans hW b3; have hb3 := ab_trans hb hc3; have O3 := O.keep hc3)
        | (at_builtin; refine app_i w rfl rfl rfl O3 rfl (own_is hN3) rfl (by show 3 + 3 ≤ _; omega) hb3 ?_; intro v4 V4 hown4 hnil4 b4 hgr4 hat4))
      exact ⟨⟨2, by omega, rfl, io_of hown4, blk_grownT (hB1.keep hc3) hgr4 (blk_own O3 (hB1.keep hc3) (by decide)), b4⟩, by simp only [intOf]; omega⟩
    · obtain ⟨c0, c1, c2, c3, c4, c5, c6⟩ := cells7 hB1
      have hbv := Below.refl wr.heap.size wr
      have hvv := hv.keep hb
      have HF : Hid ((upN r.p r.a 2 ++ r.l) = nmR r) := rfl
      go_wp2_with (at_builtin; refine app_i w rfl rfl rfl O rfl hvv hn (by show 6 + n ≤ _; omega) hb ?_; intro v4 V4 hown4 hnil4 b4 hgr4 hat4; rw [HF.out] at hown4)
      go_ret
      exact ⟨_, rfl, io_of hown4, b4⟩
end Go.Proofs.Ytlhamckpgijjmaa
namespace Go.Proofs.Ytlhamckpgijjmaa
open Go.RowKit
set_option linter.unusedVariables false

/-- The register that numbers make. -/
def tkO (l : List Int) : Rg := ⟨⟨l.getD 0 0, l.getD 1 0, l.getD 2 0⟩, ⟨l.getD 3 0, l.getD 4 0, l.getD 5 0⟩, l.drop 6⟩
def tkB (l : List Int) : Bool := decide (6 ≤ l.length) && gdR (tkO l)
def tkR (l : List Int) : Rg := if tkB l then tkO l else zR
theorem tkR_no {l : List Int} (h : tkB l = false) : tkR l = zR := by unfold tkR; rw [h]; rfl
theorem tkR_ok {l : List Int} (h : tkB l = true) : tkR l = tkO l := by unfold tkR; rw [h]; rfl
theorem tkB_short {l : List Int} (h : ¬ 6 ≤ l.length) : tkB l = false := by unfold tkB; rw [decide_eq_false h]; rfl
theorem tkB_long {l : List Int} (h : 6 ≤ l.length) : tkB l = gdR (tkO l) := by unfold tkB; rw [decide_eq_true h]; rfl
theorem zero_rg (w : World) : (zeroValue 40).run Try.prog w = .ok (.agg (rC zB zB (.slice none 0 0))) w := by kernel_rfl
theorem getD_drop3 (l : List Int) (i k : Nat) : (l.drop k).getD i 0 = l.getD (k + i) 0 := by
  rw [List.getD_eq_getElem?_getD, List.getD_eq_getElem?_getD, List.getElem?_drop]
theorem take9_short (v : Value) (l : List Int) (w : World) (hv : Is w v l) (h6 : ¬ 6 ≤ l.length) :
    Calls Try.prog 39 #[v] w fun e w' => RgE w' w.heap.size (tkR l) (.bool (tkB l)) e ∧ Below w.heap.size w w' := by
  obtain ⟨q, c, e⟩ := hv.form
  subst e
  have HB : Hid (tkB l = false) := tkB_short h6
  have h6' : (l.length : Int) < 6 := by omega
  generalize l.length = n at *
  go_enter Try.func39, Try.ntmps39
  go_upto_region 1 with fail
  obtain ⟨A, hAe, hB, hw⟩ := blk1 w (rC zB zB (.slice none 0 0)) 40
  rw [show w.alloc (.cells #[.int .i64 0, .int .i64 0, .int .i64 0, .int .i64 0, .int .i64 0, .int .i64 0, .slice none 0 0] 40) = A from hAe]
  clear hAe
  go_wp2_with (refine st_rg rfl rfl (p1 := zB) (a1 := zB) hB rfl rfl ?_; intro W5 hB5 C5)
  exact bodyPost_ret (results_c2 rfl _ _ _ 40 _ (0, 0) _ (.bool false) rfl rfl hB5 Try.underlying40 rfl (info_rg zB zB _)) rfl ⟨rge_zero _ _ _ _ _ (tkR_no HB.out) (by rw [HB.out]), ab_chg hw C5 (Nat.le_refl _)⟩
set_option maxHeartbeats 4000000 in
set_option maxRecDepth 100000 in
theorem take9_long (v : Value) (l : List Int) (w : World) (hv : Is w v l) (h6 : 6 ≤ l.length) :
    Calls Try.prog 39 #[v] w fun e w' => RgE w' w.heap.size (tkR l) (.bool (tkB l)) e ∧ Below w.heap.size w w' := by
  obtain ⟨q, c, e⟩ := hv.form
  subst e
  have hc := hv.len
  obtain ⟨n, hn⟩ : ∃ n, l.length = n := ⟨_, rfl⟩
  have HB : Hid (tkB l = gdR (tkO l)) := tkB_long h6
  obtain ⟨p0, k0⟩ : ∃ x, l.getD 0 0 = x := ⟨_, rfl⟩
  obtain ⟨p1, k1⟩ : ∃ x, l.getD 1 0 = x := ⟨_, rfl⟩
  obtain ⟨p2, k2⟩ : ∃ x, l.getD 2 0 = x := ⟨_, rfl⟩
  obtain ⟨p3, k3⟩ : ∃ x, l.getD 3 0 = x := ⟨_, rfl⟩
  obtain ⟨p4, k4⟩ : ∃ x, l.getD 4 0 = x := ⟨_, rfl⟩
  obtain ⟨p5, k5⟩ : ∃ x, l.getD 5 0 = x := ⟨_, rfl⟩
  have HB1 : Hid ((⟨l.getD 0 0, l.getD 1 0, l.getD 2 0⟩ : Bt) = ⟨p0, p1, p2⟩) := by show _ = _; rw [k0, k1, k2]
  have HB2 : Hid ((⟨(l.drop 3).getD 0 0, (l.drop 3).getD 1 0, (l.drop 3).getD 2 0⟩ : Bt) = ⟨p3, p4, p5⟩) := by show _ = _; rw [getD_drop3, getD_drop3, getD_drop3, k3, k4, k5]
  have HO : Hid (tkO l = ⟨⟨p0, p1, p2⟩, ⟨p3, p4, p5⟩, l.drop 6⟩) := by show _ = _; unfold tkO; rw [k0, k1, k2, k3, k4, k5]
  clear k0 k1 k2 k3 k4 k5
  have HD3 : Hid (3 ≤ (l.drop 3).length) := by show _ ≤ _; rw [List.length_drop]; omega
  have HG : Hid (gdN ⟨p0, p1, p2⟩ ⟨p3, p4, p5⟩ (n - 6) = gdR (tkO l)) := by show _ = _; rw [HO.out]; show _ = gdN _ _ (l.drop 6).length; rw [List.length_drop, hn]
  rw [hn] at hv h6 hc ⊢
  have h6' : ¬ (n : Int) < 6 := by omega
  obtain ⟨q3, e3⟩ := sliced_form q 3 n c
  obtain ⟨q6, e6⟩ := sliced_form q 6 n c
  go_enter Try.func39, Try.ntmps39
  go_upto_region 1 with fail
  obtain ⟨V, hAe, hB, hw⟩ := blk1 w (rC zB zB (.slice none 0 0)) 40
  rw [show w.alloc (.cells #[.int .i64 0, .int .i64 0, .int .i64 0, .int .i64 0, .int .i64 0, .int .i64 0, .slice none 0 0] 40) = V from hAe]
  clear hAe
  have hvV := hv.keep hw
  have i3 : Is V (.slice q3 (n - 3) (c - 3)) (l.drop 3) := by
    have := hvV.sub (i := 3) (j := n) (sc := c) (by omega) (by omega) (Nat.le_refl _) (by omega) e3.symm
    rwa [List.take_of_length_le (by rw [List.length_drop]; omega)] at this
  have i6 : Is V (.slice q6 (n - 6) (c - 6)) (l.drop 6) := by
    have := hvV.sub (i := 6) (j := n) (sc := c) (by omega) (by omega) (Nat.le_refl _) (by omega) e6.symm
    rwa [List.take_of_length_le (by rw [List.length_drop]; omega)] at this
  have hzV : w.heap.size < V.heap.size := hB.lt
  go_upto_region 3 with fail
  go_cut [4] from 9 to 16 (fun x wc => ∃ g, x = .pointer (some ⟨g, 0, none⟩) ∧ V.heap.size ≤ g ∧ Blk wc g (rC ⟨p0, p1, p2⟩ ⟨p3, p4, p5⟩ (.slice q6 (n - 6) (c - 6))) 40 ∧ Below V.heap.size V wc)
  case first =>
    refine wp_region_held_drew (S := fun w' => Below V.heap.size V w') (by kernel_rfl) (ab_drew (Below.refl _ _)) (fun hHeld => ?_)
    refine takeH (i := 0) (some 9) rfl rfl (by kernel_rfl) (by kernel_rfl) (by kernel_rfl) (fun _ _ _ h => h) (by rfl) (fun w hSw => by (try dsimp only at hSw); go_simp; try rfl) hHeld ?_
    go_frame
    refine takeH (i := 2) (some 11) rfl rfl (by kernel_rfl) (by kernel_rfl) (by kernel_rfl) (fun _ _ _ h => h) (by rfl) (fun w hSw => by (try dsimp only at hSw); go_simp; try rfl) hHeld ?_
    go_frame
    refine takeH (i := 3) (some 12) rfl rfl (by kernel_rfl) (by kernel_rfl) (by kernel_rfl) (fun _ _ _ h => h) (by rfl) (fun w hSw => by (try dsimp only at hSw); exact (sli_l_run (i := 3) rfl rfl rfl rfl (by omega) (by omega)).trans (by rw [e3])) hHeld ?_
    go_frame
    refine takeH (i := 5) (some 14) rfl rfl (by kernel_rfl) (by kernel_rfl) (by kernel_rfl) (fun _ _ _ h => h) (by rfl) (fun w hSw => by (try dsimp only at hSw); go_simp; try rfl) hHeld ?_
    go_frame
    refine takeH (i := 6) (some 15) rfl rfl (by kernel_rfl) (by kernel_rfl) (by kernel_rfl) (fun _ _ _ h => h) (by rfl) (fun w hSw => by (try dsimp only at hSw); exact (sli_l_run (i := 6) rfl rfl rfl rfl (by omega) (by omega)).trans (by rw [e6])) hHeld ?_
    go_frame
    refine wpAnyH_ready (rs := [1, 8]) (by kernel_rfl) (by simp) (AllReadyH.cons rfl (fun K hK => ?_) (AllReadyH.cons rfl (fun K hK => ?_) AllReadyH.nil))
    · go_simp
      refine (ballotOf_any _ l _ (hvV.keep hHeld) (by omega)).mono ?_
      rintro e X1 ⟨rfl, bx1⟩
      rw [HB1.out]
      show K _ _
      refine hK.out _ _ (ab_trans hHeld bx1) (fun hHeld => ?_)
      clear hK K
      refine wpAnyH_ready (rs := [4, 8]) (by kernel_rfl) (by simp) (AllReadyH.cons rfl (fun K hK => ?_) (AllReadyH.cons rfl (fun K hK => ?_) AllReadyH.nil))
      · go_simp
        refine (ballotOf_any _ (l.drop 3) _ (i3.keep hHeld) HD3.out).mono ?_
        rintro e X4 ⟨rfl, bx4⟩
        rw [HB2.out]
        show K _ _
        refine hK.out _ _ (ab_trans hHeld bx4) (fun hHeld => ?_)
        clear hK K
        refine takeH (i := 7) (some 16) rfl rfl (by kernel_rfl) (by kernel_rfl) (by kernel_rfl) (fun _ _ _ h => h) (by rfl) (fun w hSw => by (try dsimp only at hSw); go_simp; try rfl) hHeld ?_
        go_frame
        refine wpAnyH_ready (rs := [8]) (by kernel_rfl) (by simp) (AllReadyH.cons rfl (fun K hK => ?_) AllReadyH.nil)
        rw [if_pos (by rfl)]
        refine alW (some 4) rfl rfl (rC zB zB (.slice none 0 0)) (zero_rg _) fun X8 hG bx8 => ?_
        have hge := hHeld.size
        refine hK.out _ _ (ab_trans hHeld bx8) (fun hHeld => ?_)
        clear hK K
        go_frame
        refine wpAnyH_ready (rs := [9]) (by kernel_rfl) (by simp) (AllReadyH.cons rfl (fun K hK => ?_) AllReadyH.nil)
        rw [if_pos (by rfl)]
        refine stW none rfl rfl hG rfl rfl (info_rg ⟨p0, p1, p2⟩ ⟨p3, p4, p5⟩ (.slice q6 (n - 6) (c - 6))) rfl (rg_one ⟨p0, p1, p2⟩ ⟨p3, p4, p5⟩ _ _ _) fun X9 hG9 C9 => ?_
        have hb9 := hHeld.trans (C9.below hge)
        refine hK.out _ _ hb9 (fun hHeld => ?_)
        clear hK K
        refine wpAnyH_done (by kernel_rfl) ?_ _
        go_wp2_with fail
        go_meet
        case rel => exact ⟨_, rfl, hge, hG9, hb9⟩
      · rw [if_pos (by rfl)]
        refine alW (some 4) rfl rfl (rC zB zB (.slice none 0 0)) (zero_rg _) fun X8 hG bx8 => ?_
        have hge := hHeld.size
        refine hK.out _ _ (ab_trans hHeld bx8) (fun hHeld => ?_)
        clear hK K
        go_frame
        refine wpAnyH_ready (rs := [4]) (by kernel_rfl) (by simp) (AllReadyH.cons rfl (fun K hK => ?_) AllReadyH.nil)
        go_simp
        refine (ballotOf_any _ (l.drop 3) _ (i3.keep hHeld) HD3.out).mono ?_
        rintro e X4 ⟨rfl, bx4⟩
        rw [HB2.out]
        show K _ _
        refine hK.out _ _ (ab_trans hHeld bx4) (fun hHeld => ?_)
        clear hK K
        have hG := hG.keep bx4
        refine takeH (i := 7) (some 16) rfl rfl (by kernel_rfl) (by kernel_rfl) (by kernel_rfl) (fun _ _ _ h => h) (by rfl) (fun w hSw => by (try dsimp only at hSw); go_simp; try rfl) hHeld ?_
        go_frame
        refine wpAnyH_ready (rs := [9]) (by kernel_rfl) (by simp) (AllReadyH.cons rfl (fun K hK => ?_) AllReadyH.nil)
        rw [if_pos (by rfl)]
        refine stW none rfl rfl hG rfl rfl (info_rg ⟨p0, p1, p2⟩ ⟨p3, p4, p5⟩ (.slice q6 (n - 6) (c - 6))) rfl (rg_one ⟨p0, p1, p2⟩ ⟨p3, p4, p5⟩ _ _ _) fun X9 hG9 C9 => ?_
        have hb9 := hHeld.trans (C9.below hge)
        refine hK.out _ _ hb9 (fun hHeld => ?_)
        clear hK K
        refine wpAnyH_done (by kernel_rfl) ?_ _
        go_wp2_with fail
        go_meet
        case rel => exact ⟨_, rfl, hge, hG9, hb9⟩
    · rw [if_pos (by rfl)]
      refine alW (some 4) rfl rfl (rC zB zB (.slice none 0 0)) (zero_rg _) fun X8 hG bx8 => ?_
      have hge := hHeld.size
      refine hK.out _ _ (ab_trans hHeld bx8) (fun hHeld => ?_)
      clear hK K
      go_frame
      refine wpAnyH_ready (rs := [1]) (by kernel_rfl) (by simp) (AllReadyH.cons rfl (fun K hK => ?_) AllReadyH.nil)
      go_simp
      refine (ballotOf_any _ l _ (hvV.keep hHeld) (by omega)).mono ?_
      rintro e X1 ⟨rfl, bx1⟩
      rw [HB1.out]
      show K _ _
      refine hK.out _ _ (ab_trans hHeld bx1) (fun hHeld => ?_)
      clear hK K
      refine wpAnyH_ready (rs := [4]) (by kernel_rfl) (by simp) (AllReadyH.cons rfl (fun K hK => ?_) AllReadyH.nil)
      go_simp
      refine (ballotOf_any _ (l.drop 3) _ (i3.keep hHeld) HD3.out).mono ?_
      rintro e X4 ⟨rfl, bx4⟩
      rw [HB2.out]
      show K _ _
      refine hK.out _ _ (ab_trans hHeld bx4) (fun hHeld => ?_)
      clear hK K
      have hG := hG.keep bx1
      have hG := hG.keep bx4
      refine takeH (i := 7) (some 16) rfl rfl (by kernel_rfl) (by kernel_rfl) (by kernel_rfl) (fun _ _ _ h => h) (by rfl) (fun w hSw => by (try dsimp only at hSw); go_simp; try rfl) hHeld ?_
      go_frame
      refine wpAnyH_ready (rs := [9]) (by kernel_rfl) (by simp) (AllReadyH.cons rfl (fun K hK => ?_) AllReadyH.nil)
      rw [if_pos (by rfl)]
      refine stW none rfl rfl hG rfl rfl (info_rg ⟨p0, p1, p2⟩ ⟨p3, p4, p5⟩ (.slice q6 (n - 6) (c - 6))) rfl (rg_one ⟨p0, p1, p2⟩ ⟨p3, p4, p5⟩ _ _ _) fun X9 hG9 C9 => ?_
      have hb9 := hHeld.trans (C9.below hge)
      refine hK.out _ _ hb9 (fun hHeld => ?_)
      clear hK K
      refine wpAnyH_done (by kernel_rfl) ?_ _
      go_wp2_with fail
      go_meet
      case rel => exact ⟨_, rfl, hge, hG9, hb9⟩
  case rest =>
    obtain ⟨g, rfl, hge, hG, bV⟩ := hcut
    have hB1 := hB.keep bV
    obtain ⟨c0, c1, c2, c3, c4, c5, c6⟩ := cells7 hG
    have hbv := Below.refl wc.heap.size wc
    clear hB
    go_wp2_with fail
    refine (good9_any ⟨p0, p1, p2⟩ ⟨p3, p4, p5⟩ q6 (n - 6) (c - 6) _).mono ?_
    rintro e W1 ⟨rfl, b1⟩
    rw [HG.out]
    have hbv := ab_trans hbv b1
    have hB2 := hB1.keep hbv
    cases h1 : gdR (tkO l)
    · rw [h1] at HB
      have hwv := ab_trans hw (ab_trans bV hbv)
      clear hB1
      go_wp2_with (refine st_rg rfl rfl (p1 := zB) (a1 := zB) hB2 rfl rfl ?_; intro W5 hB5 C5)
      exact bodyPost_ret (results_c2 rfl _ _ _ 40 _ (0, 0) _ (.bool false) rfl rfl hB5 Try.underlying40 rfl (info_rg zB zB _)) rfl ⟨rge_zero _ _ _ _ _ (tkR_no HB.out) (by rw [HB.out]), ab_chg hwv C5 (Nat.le_refl _)⟩
    · rw [h1] at HB
      have HL : Hid ((l.drop 6).length ≤ 32) := by have := gd_le h1; rw [HO.out] at this; exact this
      have i6v := i6.keep (ab_trans bV hbv)
      have HL6 : Hid ((l.drop 6).length = n - 6) := by show _ = _; rw [List.length_drop, hn]
      have hwv := ab_trans hw (ab_trans bV hbv)
      have hG1 := hG.keep hbv
      have hzz : g < W1.heap.size := hG1.lt
      have hne : w.heap.size ≠ g := by omega
      clear hB1 hG hvV hv i3 i6
      generalize n - 6 = m at *
      generalize c - 6 = cc at *
      go_wp2_with fail
      refine (bclone_any _ (l.drop 6) _ i6v (by have := HL.out; omega)).mono ?_
      rintro e W2 ⟨v2, rfl, hO2, b2⟩
      obtain ⟨q2, k2, e2⟩ := hO2.is.form
      rw [HL6.out] at e2
      subst e2
      have hG2 := hG1.keep b2
      have hB3 := hB2.keep b2
      have hw2 := ab_trans hwv b2
      have f6 := hG2.frozen 6
      have y6 : W2.cell? ⟨g, 6, none⟩ = some (.slice q6 m cc) := hG2.at rfl
      clear c0 c1 c2 c3 c4 c5 c6 hbv
      go_upto_region 7 with fail
      have hG3 : Blk _ g (rC ⟨p0, p1, p2⟩ ⟨p3, p4, p5⟩ (.slice q2 m k2)) 40 := hG2.set 6 (.slice q2 m k2)
      have C3 := chg_set W2 g 6 (.slice q2 m k2)
      have hB4 := hB3.chg C3 hne
      have hw3 := ab_chg hw2 C3 (by omega)
      have hO3 : Io _ W1.heap.size (.slice q2 m k2) (l.drop 6) := io_chg hO2 C3 hzz
      clear hG2 hB3 hw2 hO2 f6 y6 C3
      generalize W2.setCell ⟨g, 6, none⟩ (.slice q2 m k2) = W3 at *
      obtain ⟨c0, c1, c2, c3, c4, c5, c6⟩ := cells7 hG3
      have hbv := Below.refl W3.heap.size W3
      go_wp2_with (refine st_rg rfl rfl (p1 := ⟨p0, p1, p2⟩) (a1 := ⟨p3, p4, p5⟩) hB4 rfl rfl ?_; intro W5 hB5 C5)
      have hO5 : Io W5 W1.heap.size (.slice q2 m k2) (l.drop 6) := io_chg hO3 C5 (by omega)
      exact bodyPost_ret (results_c2 rfl _ _ _ 40 _ (0, 0) _ (.bool true) rfl rfl hB5 Try.underlying40 rfl (info_rg ⟨p0, p1, p2⟩ ⟨p3, p4, p5⟩ _)) rfl ⟨rge_of _ _ _ ((tkR_ok HB.out).trans HO.out) (by rw [HB.out]) (hO5.less (by omega)), ab_chg hw3 C5 (Nat.le_refl _)⟩
theorem take9_any (v : Value) (l : List Int) (w : World) (hv : Is w v l) :
    Calls Try.prog 39 #[v] w fun e w' => RgE w' w.heap.size (tkR l) (.bool (tkB l)) e ∧ Below w.heap.size w w' := by
  by_cases h : 6 ≤ l.length
  · exact take9_long v l w hv h
  · exact take9_short v l w hv h
end Go.Proofs.Ytlhamckpgijjmaa
