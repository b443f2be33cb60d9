/-
  Keeper: which numbers are keys, copies of lists, a ballot's numbers, an answer.
  Keeper: a row of the diary.
-/
import Derived.Test.YtlhamckpgijjmaaPk25
import Derived.Test.YtlhamckpgijjmaaPk24
import Derived.Test.YtlhamckpgijjmaaPk40
import Derived.Test.YtlhamckpgijjmaaPk18
namespace Go.Proofs.Ytlhamckpgijjmaa
open Go.RowKit
set_option linter.unusedVariables false
set_option maxRecDepth 100000

def keyB (k : Int) : Bool := decide (0 ≤ k) && decide (k < 100)
theorem keyB_iff {k : Int} : keyB k = true ↔ 0 ≤ k ∧ k < 100 := by simp [keyB]
theorem iskey_any (k : Int) (w : World) : Calls Try.prog 23 #[.int .i64 k] w fun e w' => e = .returned (.bool (keyB k)) ∧ w' = w := by
  by_cases h0 : 0 ≤ k
  · have hk : keyB k = decide (k < 100) := by unfold keyB; rw [decide_eq_true h0]; rfl
    rw [hk]
    clear hk
    go_enter Try.func23, Try.ntmps23
    go_wp2_with fail
    go_ret
    exact ⟨rfl, rfl⟩
  · have hk : keyB k = false := by unfold keyB; rw [decide_eq_false h0]; rfl
    rw [hk]
    clear hk
    go_enter Try.func23, Try.ntmps23
    go_wp2_with fail
    go_ret
    exact ⟨rfl, rfl⟩
set_option maxHeartbeats 400000 in
theorem kclone_any (v : Value) (l : List Int) (w : World) (hv : Is w v l) (hl : l.length ≤ 100000) : Calls Try.prog 24 #[v] w fun e w' => ∃ v', e = .returned v' ∧ Io w' w.heap.size v' l ∧ Below w.heap.size w w' := by
  go_enter Try.func24, Try.ntmps24
  go_upto_region 1 with fail
  refine wp_region_lit ?_
  refine valS rfl v rfl ?_
  refine app_i w rfl rfl (l := []) (m := l) rfl (own_nil _ _) rfl hv rfl (by omega) (Below.refl _ _) ?_
  intro v' W' hown hnil hb hg hat
  go_wp2_with fail
  go_ret
  exact ⟨_, rfl, io_of hown, hb⟩
set_option maxHeartbeats 400000 in
theorem knums_any (b : Bt) (w : World) : Calls Try.prog 29 #[bV b] w fun e w' => ∃ v', e = .returned v' ∧ Io w' w.heap.size v' (nmB b) ∧ Below w.heap.size w w' := by
  go_enter Try.func29, Try.ntmps29
  go_upto_region 1 with fail
  obtain ⟨A, hAe, hB, bA⟩ := blk1 w (bC b) 38
  rw [show w.alloc (.cells _ 38) = A from hAe]
  clear hAe
  have c0 := hB.at (i := 0) rfl
  have c1 := hB.at (i := 1) rfl
  have c2 := hB.at (i := 2) rfl
  go_wp2_with (refine bs_own rfl rfl [b.n, b.nd, b.lf] (by simp only [List.map_toArray, List.map_cons, List.map_nil]; rfl) (isl3 _ _ _ _) rfl (by decide) ?_; intro W3 hN3 b3 z3; clear z3; go_frame)
  go_ret
  exact ⟨_, rfl, (io_of hN3).less bA.size, ab_trans bA b3⟩
end Go.Proofs.Ytlhamckpgijjmaa
namespace Go.Proofs.Ytlhamckpgijjmaa
open Go.RowKit
set_option linter.unusedVariables false
set_option maxRecDepth 100000

/-- The row that tells a key's register. -/
def rowB (k : Int) (r : Rg) : List Nat := [] ++ numsB [k] ++ numsB (nmR r)
theorem numsB_one (k : Int) : (numsB [k]).length ≤ 1000 := by have := numsB_len [k]; simp only [List.length_cons, List.length_nil] at this; omega
set_option maxHeartbeats 1000000 in
theorem krow_any (k : Int) (r : Rg) (v : Value) (w : World) (hv : Is w v r.l) (hl : r.l.length ≤ 1000) (hk : In64 [k]) (hr : In64 (nmR r)) :
    Calls Try.prog 49 #[.int .i64 k, rV r.p r.a v] w fun e w' => ∃ v', e = .returned v' ∧ Ow w' w.heap.size v' (rowB k r) ∧ Below w.heap.size w w' := by
  have hnl : (nmR r).length ≤ 4000 := by unfold nmR nmB; simp only [List.length_append, List.length_cons, List.length_nil]; omega
  have hkl : (numsB [k]).length ≤ 1000 := numsB_one k
  obtain ⟨q, c, e⟩ := hv.form
  obtain ⟨n, hn⟩ : ∃ n, r.l.length = n := ⟨_, rfl⟩
  rw [hn] at e
  subst e
  go_enter Try.func49, Try.ntmps49
  go_upto_region 1 with fail
  obtain ⟨A, hAe, hB, bA⟩ := blk1 w (rC r.p r.a (.slice q n c)) 40
  rw [show w.alloc (.cells _ 40) = A from hAe]
  clear hAe
  have hvA := hv.keep bA
  refine region_L 5 (S := fun w' => Below A.heap.size A w') (by kernel_rfl) ((Below.refl _ _).drew) (fun hHeld => ?_)
  have hdr : Below A.heap.size A A.drew := hHeld
  generalize A.drew = V0 at *
  refine takeP (i := 0) (some 5) (by rfl) rfl rfl (by kernel_rfl) (by kernel_rfl) (by kernel_rfl) (fun _ _ _ h => h) (by rfl) (fun w => by go_simp; try rfl) hHeld ?_
  go_frame
  refine takeL (i := 3) [4, 5] (some 8) (by rfl) rfl rfl (by kernel_rfl) (by kernel_rfl) (by kernel_rfl) (by kernel_rfl) (fun _ _ _ h => h) (by rfl) (fun w hSw => by (try dsimp only at hSw); (have hh := hB.keep hSw; have t0 := hh.at (i := 0) rfl; have t1 := hh.at (i := 1) rfl; have t2 := hh.at (i := 2) rfl; have t3 := hh.at (i := 3) rfl; have t4 := hh.at (i := 4) rfl; have t5 := hh.at (i := 5) rfl; have t6 := hh.at (i := 6) rfl; go_simp; try rfl)) hHeld ?_
  go_frame
  refine anyL_ready (rs := [1]) (by kernel_rfl) (by simp) (AllL.cons rfl (fun K hK => ?_) AllL.nil)
  rw [if_pos (by rfl)]
  refine bs_iW (some 6) rfl rfl [k] (by simp only [List.map_toArray, List.map_cons, List.map_nil]; rfl) (isl1 _ _) rfl (by decide) fun W1 own1 b1 => ?_
  have hb1 := ab_trans hdr b1
  refine hK.out _ _ hb1 (fun hHeld => ?_)
  clear hK K
  try go_frame
  refine anyL_ready (rs := [2]) (by kernel_rfl) (by simp) (AllL.cons rfl (fun K hK => ?_) AllL.nil)
  go_simp
  refine (put_any _ [] _ [k] W1 (sl_nil _) (by simp) (own_is own1) (by simp) hk).mono ?_
  rintro e W2 ⟨v2, rfl, O2, b2⟩
  show K _ _
  have hb2 := ab_trans hb1 b2
  refine hK.out _ _ hb2 (fun hHeld => ?_)
  clear hK K
  try go_frame
  refine anyL_ready (rs := [4]) (by kernel_rfl) (by simp) (AllL.cons rfl (fun K hK => ?_) AllL.nil)
  go_simp
  refine (nums9_any r (.slice q n c) W2 (hvA.keep hb2) (by omega)).mono ?_
  rintro e W3 ⟨v3, rfl, O3, b3⟩
  show K _ _
  have hb3 := ab_trans hb2 b3
  refine hK.out _ _ hb3 (fun hHeld => ?_)
  clear hK K
  try go_frame
  refine anyL_ready (rs := [5]) (by kernel_rfl) (by simp) (AllL.last rfl (by kernel_rfl) (fun K hK => ?_))
  go_simp
  refine (put_any _ ([] ++ numsB [k]) _ (nmR r) W3 (O2.keep b3).sl (by simp only [List.nil_append]; omega) O3.is hnl hr).mono ?_
  rintro e W4 ⟨v4, rfl, O4, b4⟩
  show K _ _
  have hb4 := ab_trans hb3 b4
  refine hK.out _ _ ?_
  clear hK K
  try go_frame
  refine anyL_ready (rs := [6]) (by kernel_rfl) (by simp) (AllL.free rfl (by kernel_rfl) (fun K hK => ?_))
  go_simp
  refine hK.out _ _ ?_
  clear hK K
  refine anyL_done (by kernel_rfl) ?_
  go_wp2_with fail
  go_ret
  exact ⟨_, rfl, O4.less (Nat.le_trans bA.size hb3.size), ab_trans bA hb4⟩
end Go.Proofs.Ytlhamckpgijjmaa
