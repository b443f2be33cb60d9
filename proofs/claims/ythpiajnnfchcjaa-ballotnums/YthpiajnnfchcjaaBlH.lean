/-
  Registers as numbers: ballot.Nums, the document's Nums.
-/
import Derived.Test.YthpiajnnfchcjaaBlE
namespace Go.Proofs.Ythpiajnnfchcjaa
open Go.RowKit
set_option linter.unusedVariables false

def nmB (b : Bt) : List Int := [b.n, b.nd, b.lf]
/-- A register's numbers. -/
def nmR (r : Rg) : List Int := (nmB r.p ++ nmB r.a) ++ r.l
def upN (p a : Bt) : Nat → List Int
  | 0 => []
  | 1 => nmB p
  | _ => nmB p ++ nmB a
theorem isl6 (a b c d e f : Int) (w : World) : (Instr.buildSlice 29 6 #[(0, .int .i64 a), (1, .int .i64 b), (2, .int .i64 c), (3, .int .i64 d), (4, .int .i64 e), (5, .int .i64 f)]).run Try.prog w = .ok (.slice (some ⟨w.heap.size, 0, none⟩) 6 6) (w.alloc (.cells (ints [a, b, c, d, e, f]).toArray 3)) := by kernel_rfl
set_option maxHeartbeats 1000000 in
theorem rnums9_any (r : Rg) (v : Value) (w : World) (hv : Is w v r.l) (hl : r.l.length ≤ 100000) :
    Calls Try.prog 27 #[rV r.p r.a v] w fun e w' => ∃ v', e = .returned v' ∧ Io w' w.heap.size v' (nmR r) ∧ Below w.heap.size w w' := by
  obtain ⟨q, c, e⟩ := hv.form
  subst e
  obtain ⟨n, hn⟩ : ∃ n, r.l.length = n := ⟨_, rfl⟩
  rw [hn] at hv hl ⊢
  go_enter Try.func27, Try.ntmps27
  go_upto_region 1 with fail
  obtain ⟨A, hAe, hB, hw⟩ := blk1 w (rC r.p r.a (.slice q n c)) 31
  rw [hAe]
  obtain ⟨c0, c1, c2, c3, c4, c5, c6⟩ := cells7 hB
  have hbv := Below.refl A.heap.size A
  clear hAe
  go_upto_region 2 with (refine bs_own rfl rfl [r.p.n, r.p.nd, r.p.lf, r.a.n, r.a.nd, r.a.lf] (by simp only [List.map_toArray, List.map_cons, List.map_nil]; rfl) (isl6 _ _ _ _ _ _ _) rfl (by decide) ?_; intro W1 hN1 b1 z1; clear z1; have hbv := b1)
  have hw1 := ab_trans hw b1
  go_wp2_with (at_builtin; refine app_i w rfl rfl rfl (own_less hN1 hw.size) rfl (hv.keep hw1) hn (by omega) hw1 ?_; intro v4 V4 hown4 hnil4 b4 hgr4 hat4)
  go_ret
  exact ⟨_, rfl, io_of hown4, b4⟩
theorem ix0 (a b c d e f : Int) (w : World) : (Instr.index 68 (.agg #[.int .i64 a, .int .i64 b, .int .i64 c, .int .i64 d, .int .i64 e, .int .i64 f]) (.int .i64 0)).run Try.prog w = .ok (.agg #[.int .i64 a, .int .i64 b, .int .i64 c]) w := by kernel_rfl
theorem ix1 (a b c d e f : Int) (w : World) : (Instr.index 68 (.agg #[.int .i64 a, .int .i64 b, .int .i64 c, .int .i64 d, .int .i64 e, .int .i64 f]) (.int .i64 1)).run Try.prog w = .ok (.agg #[.int .i64 d, .int .i64 e, .int .i64 f]) w := by kernel_rfl
set_option maxHeartbeats 1000000 in
theorem nums9_any (r : Rg) (v : Value) (w : World) (hv : Is w v r.l) (hl : r.l.length ≤ 100000) :
    Calls Try.prog 24 #[rV r.p r.a v] w fun e w' => ∃ v', e = .returned v' ∧ Io w' w.heap.size v' (nmR r) ∧ Below w.heap.size w w' := by
  obtain ⟨q, c, e⟩ := hv.form
  subst e
  obtain ⟨n, hn⟩ : ∃ n, r.l.length = n := ⟨_, rfl⟩
  rw [hn] at hv hl ⊢
  go_enter Try.func24, Try.ntmps24
  go_upto_region 1 with fail
  obtain ⟨A, hAe, hB, hw⟩ := blk1 w (rC r.p r.a (.slice q n c)) 31
  rw [hAe]
  obtain ⟨c0, c1, c2, c3, c4, c5, c6⟩ := cells7 hB
  have hbv := Below.refl A.heap.size A
  clear hAe
  go_upto_region 2 with (refine mk_own (c := 6 + n) w rfl rfl Try.underlying29 infoInt rfl rfl (by omega) (by omega) (by unfold maxLen; omega) hw ?_; intro v1 W1 own1 nn1 b1 b1'; have hbv := b1')
  have hB1 := hB.keep b1'
  go_wp2_with fail
  clear c0 c1 c2 c3 c4 c5 c6 hbv
  have hlt1 : w.heap.size < A.heap.size := hB.lt
  go_loopw [3, 16] (fun x i wr => ∃ j : Nat, j ≤ 2 ∧ i = .int .i64 (j : Int) ∧ Io wr w.heap.size x (upN r.p r.a j) ∧ Blk wr w.heap.size (rC r.p r.a (.slice q n c)) 31 ∧ Below w.heap.size w wr) (fun _ i _ => 2 - (intOf i).toNat)
  case atStart => exact ⟨0, by omega, rfl, io_of (l := []) own1, hB1, b1⟩
  case round =>
    clear own1 nn1 b1 b1' hB1
    obtain ⟨j, hj, rfl, O, hB1, hb⟩ := hrel
    have hj3 : j = 0 ∨ j = 1 ∨ j = 2 := by omega
    rcases hj3 with rfl | rfl | rfl
    · have X := ix0 r.p.n r.p.nd r.p.lf r.a.n r.a.nd r.a.lf
      have hW := ab_alloc (Below.refl wr.heap.size wr) (.cells (bC r.p) 23)
      go_wp2_with (first
        | (refine bs_own rfl rfl [r.p.n, r.p.nd, r.p.lf] (by simp only [List.map_toArray, List.map_cons, List.map_nil]; rfl) (isl3 _ _ _ _) rfl (by decide) ?_; intro V3 hN3 b3 z3; clear z3; have hc3 := ab_trans hW b3; have hb3 := ab_trans hb hc3; have O3 := O.keep hc3)
        | (at_builtin; refine app_i w rfl rfl rfl O3 rfl (own_is hN3) rfl (by show 0 + 3 ≤ _; omega) hb3 ?_; intro v4 V4 hown4 hnil4 b4 hgr4 hat4))
      exact ⟨⟨1, by omega, rfl, io_of hown4, blk_grownT (hB1.keep hc3) hgr4 (blk_own O3 (hB1.keep hc3) (by decide)), b4⟩, by simp only [intOf]; omega⟩
    · have X := ix1 r.p.n r.p.nd r.p.lf r.a.n r.a.nd r.a.lf
      have hW := ab_alloc (Below.refl wr.heap.size wr) (.cells (bC r.a) 23)
      go_wp2_with (first
        | (refine bs_own rfl rfl [r.a.n, r.a.nd, r.a.lf] (by simp only [List.map_toArray, List.map_cons, List.map_nil]; rfl) (isl3 _ _ _ _) rfl (by decide) ?_; intro V3 hN3 b3 z3; clear z3; have hc3 := ab_trans hW b3; have hb3 := ab_trans hb hc3; have O3 := O.keep hc3)
        | (at_builtin; refine app_i w rfl rfl rfl O3 rfl (own_is hN3) rfl (by show 3 + 3 ≤ _; omega) hb3 ?_; intro v4 V4 hown4 hnil4 b4 hgr4 hat4))
      exact ⟨⟨2, by omega, rfl, io_of hown4, blk_grownT (hB1.keep hc3) hgr4 (blk_own O3 (hB1.keep hc3) (by decide)), b4⟩, by simp only [intOf]; omega⟩
    · obtain ⟨c0, c1, c2, c3, c4, c5, c6⟩ := cells7 hB1
      have hbv := Below.refl wr.heap.size wr
      have hvv := hv.keep hb
      have HF : Hid ((upN r.p r.a 2 ++ r.l) = nmR r) := rfl
      go_wp2_with (at_builtin; refine app_i w rfl rfl rfl O rfl hvv hn (by show 6 + n ≤ _; omega) hb ?_; intro v4 V4 hown4 hnil4 b4 hgr4 hat4; rw [HF.out] at hown4)
      go_ret
      exact ⟨_, rfl, io_of hown4, b4⟩
end Go.Proofs.Ythpiajnnfchcjaa
