/-
  The walk of estuarylaw03.cellsOf.
-/
import Derived.Test.YtffgndmcamedaaaPlaceS
namespace Go.Proofs.Ytffgndmcamedaaa
open Go.RowKit
set_option linter.unusedVariables false
attribute [local go_sem] res_fold

theorem info_opv : (Try.prog.info? 31).map (·.size) = some 5 := by kernel_rfl
theorem ldopv {o : Oper} {ρ : Operand → Value} {x : Operand} {b : Nat} {c0 c1 c2 c3 c4 : Value} {t : TypeId} {w : World} (ho : o.op = .load 31 x) (hx : ρ x = .pointer (some ⟨b, 0, none⟩)) (hB : Blk w b #[c0, c1, c2, c3, c4] t) :
    (execOp ρ o).run Try.prog w = .ok (.value (.agg #[c0, c1, c2, c3, c4])) w := by
  unfold execOp
  simp only [ho, hx, Instr.loadAt, Instr.sureAddr, Sem.run_bind, Sem.run_pure, Result.andThen_ok, run_loadVar_row w b t 31 #[c0, c1, c2, c3, c4] (0, 0) _ hB Try.underlying31 rfl info_opv]
theorem slc_int : Try.prog.underlying 32 = some (.slice (Try.prog.elem 32)) := by kernel_rfl
theorem slc_int1 (w : World) : (sizeOf (Try.prog.elem 32)).run Try.prog w = .ok 1 w := by kernel_rfl
theorem bs_empty (w : World) : (Instr.buildSlice 33 0 #[]).run Try.prog w = .ok (.slice (some ⟨w.heap.size, 0, none⟩) 0 0) (w.alloc (.cells #[] 23)) := by kernel_rfl

theorem bs0 {ops : Array Oper} {rest : List Oper} {o : Oper} {a : Act} {w : World} {Q : Exit → Act → World → Prop} (hw : Region.wanted o (yielded ops a.tmps) = true) {parts : Array (Nat × Operand)} (ho : o.op = .buildSlice 33 0 parts) (hl : parts.map (fun (i, x) => (i, a.eval x)) = #[])
    (h : ∀ W', W'.ownsRow w.heap.size 23 2 (.slice (some ⟨w.heap.size, 0, none⟩) 0 0) 0 [] → Below w.heap.size w W' → wpList Try.prog ops Q rest (a.put o.dst (.slice (some ⟨w.heap.size, 0, none⟩) 0 0)) W') : wpList Try.prog ops Q (o :: rest) a w := by
  unfold wpList
  rw [if_pos hw]
  left
  unfold Oper.wp execOp
  simp only [ho, Sem.run_bind, hl, bs_empty, Result.andThen_ok]
  exact h _ (own_empty w w _ _ (Nat.le_refl _)) ((Below.refl _ _).alloc (Nat.le_refl _) _)

theorem ints_cls {W : World} (q1 : Option Addr) (g1 o1 c1 : Nat) (q2 : Option Addr) (g2 o2 c2 : Nat) {n : Nat} {l : List Int} (hn : l.length = n) (hm : n ≤ 100000)
    (hp1 : 0 < n → q1 = some ⟨g1, o1, none⟩) (hp2 : 0 < n → q2 = some ⟨g2, o2, none⟩) (hr1 : IRow W g1 o1 l) (hr2 : IRow W g2 o2 l) (hg1 : 0 < n → g1 < W.heap.size) (hg2 : 0 < n → g2 < W.heap.size) (x : Cls W) :
    Calls Try.prog 28 #[.slice q1 n c1, .slice q2 n c2] x.val fun e w'' => e = .returned (.bool true) ∧ ∃ y : Cls W, w'' = y.val := by
  have h := ints_any q1 g1 o1 c1 n l q2 g2 o2 c2 n l x.val hn hn hm hm hp1 hp2 (irow_keep hr1 (by omega) x.prop) (irow_keep hr2 (by omega) x.prop) (fun h => Nat.lt_of_lt_of_le (hg1 h) x.prop.size) (fun h => Nat.lt_of_lt_of_le (hg2 h) x.prop.size)
  rw [decide_eq_true rfl] at h
  exact calls_below h

theorem cells_big (s0 s1 t key s4 : Int) (q : Option Addr) (n cap : Nat) (sh : Int) (q2 : Option Addr) (n2 cap2 : Nat) (w : World) (h : 500 < n ∨ (n ≤ 500 ∧ 2000 < n2)) :
    Calls Try.prog 17 #[Opv s0 s1 t key s4, .slice q n cap, .int .i64 sh, .slice q2 n2 cap2] w fun e w' => e = .returned (.bool true) ∧ Below w.heap.size w w' := by
  rcases h with h | ⟨h, h2⟩
  · have h' : (500 : Int) < (n : Int) := by omega
    go_enter Try.func17, Try.ntmps17
    go_wp2_with (go_at_call 9; refine (alive3_any _).mono ?_; rintro e W1 ⟨rfl, hb⟩)
    go_ret
    exact ⟨rfl, ab_trans (ab_alloc (Below.refl _ _) _) hb⟩
  · have h' : decide ((500 : Int) < (n : Int)) = false := decide_eq_false (by omega)
    have h2' : (2000 : Int) < (n2 : Int) := by omega
    go_enter Try.func17, Try.ntmps17
    go_wp2_with (go_at_call 9; refine (alive3_any _).mono ?_; rintro e W1 ⟨rfl, hb⟩)
    go_ret
    exact ⟨rfl, ab_trans (ab_alloc (Below.refl _ _) _) hb⟩

set_option maxRecDepth 100000 in
set_option maxHeartbeats 2000000 in
theorem cells_any3 (s0 s1 t key s4 : Int) (q : Option Addr) (g off n cap : Nat) (l : List Int) (sh : Int) (q2 : Option Addr) (g2 off2 n2 cap2 : Nat) (pls : List (Int × Int)) (w : World) (hn : l.length = n) (hb : n ≤ 500) (hp : 0 < n → q = some ⟨g, off, none⟩) (hg : 0 < n → g < w.heap.size) (hr : IRow w g off l)
    (t0 : -9223372036854775808 ≤ t) (t1 : t ≤ 9223372036854775807) (k0 : -9223372036854775808 ≤ key) (k1 : key ≤ 9223372036854775807) (h1 : sh ≤ 9223372036854775807) (hl : ∀ (j : Nat) (r : Int), l[j]? = some r → r ≤ 9223372036854775807)
    (hn2 : pls.length = n2) (hb2 : n2 ≤ 2000) (hp2 : 0 < n2 → q2 = some ⟨g2, off2, none⟩) (hg2 : 0 < n2 → g2 < w.heap.size) (hr2 : Row2 w g2 off2 pls) (hz : q = none → n = 0) (hz2 : q2 = none → n2 = 0) :
    Calls Try.prog 17 #[Opv s0 s1 t key s4, .slice q n cap, .int .i64 sh, .slice q2 n2 cap2] w fun e w' => e = .returned (.bool true) ∧ Below w.heap.size w w' := by
  have h' : decide ((500 : Int) < (n : Int)) = false := decide_eq_false (by omega)
  have h2' : decide ((2000 : Int) < (n2 : Int)) = false := decide_eq_false (by omega)
  go_enter Try.func17, Try.ntmps17
  go_upto_region 1 with fail
  obtain ⟨A, hE, hO, hw⟩ := blk1 w #[.int .i64 s0, .int .i64 s1, .int .i64 t, .int .i64 key, .int .i64 s4] 31
  rw [hE]
  clear hE
  go_upto_region 5 with (go_at_call 9; refine (alive3_any _).mono ?_; rintro e W1 ⟨rfl, b1⟩)
  have hO1 := hO.keep b1
  have hw1 := ab_trans hw b1
  have hr1 := irow_keep hr (by omega) hw1
  have hg1 : 0 < n → g < W1.heap.size := fun h => Nat.lt_of_lt_of_le (hg h) hw1.size
  have hr21 := row2_keep hr2 (by omega) hw1
  have hg21 : 0 < n2 → g2 < W1.heap.size := fun h => Nat.lt_of_lt_of_le (hg2 h) hw1.size
  clear hO hw b1 hr hg hr2 hg2
  go_upto_region 6 with (first
    | (refine mk_own (c := n + 1) W1 rfl rfl Try.underlying32 infoInt rfl rfl (by go_num) (by omega) (by unfold maxLen; omega) (Below.refl _ _) ?_; intro v2 W2 hown2 hv2 hb12 hb2'; clear hb2')
    | (refine bs_own rfl rfl [-77] (by simp only [List.map_toArray, List.map_cons, List.map_nil]; rfl) (isl1 _ _) rfl (by decide) ?_; intro W4 hN4 b4 z4; have hown4 := own_keep hown3 b4; have hb14 := ab_trans hb13 b4)
    | (at_builtin; refine app_own W1 rfl rfl Try.underlying32 infoInt rfl (by omega) rfl hown2 (ints l) rfl hz (by rw [ints_len, hn, Nat.mul_one]) (irow_src (irow_keep hr1 (by omega) hb12) hn hp) (ints_one l) (by unfold maxLen; omega) (by omega) hb12 ?_; intro v3 W3 hown3 hnil3 hb13 hgr3)
    | (at_builtin; refine app_own W1 rfl rfl Try.underlying32 infoInt rfl (by omega) rfl hown4 (ints [-77]) rfl (fun h => by cases h) rfl (own_src hN4) (ints_one _) (by unfold maxLen; omega) (by omega) hb14 ?_; intro v5 W5 hown5 hnil5 hb15 hgr5; rw [Nat.zero_add, List.nil_append, ints_append] at hown5; obtain ⟨hlen5, q5, g5, cap5, rfl, hq5, hg5, -, hc5, hir5⟩ := own_irow hown5; obtain rfl := hq5 (by omega))
    | (refine sl_h rfl rfl rfl rfl slc_int (slc_int1 _) (Nat.le_of_succ_le hc5) ?_))
  have hg5' := hg5 (by omega)
  have hrn : IRow W5 g5 0 l := by have := irow_take hir5 n; rwa [List.take_left' hn] at this
  have hr77 : W5.cell? ⟨g5, n, none⟩ = some (.int .i64 (-77)) := by have := hir5 n (-77) (by rw [List.getElem?_append_right (by omega), hn]; simp); rwa [Nat.zero_add] at this
  clear hown2 hv2 hb12 hown3 hnil3 hb13 hgr3 hN4 z4 hown4 hb14 hown5 hnil5 hgr5 hlen5 hq5 hg5 hir5
  have hO5 := hO1.keep hb15
  have hr5 := irow_keep hr1 (by omega) hb15
  have hg15 : 0 < n → g < W5.heap.size := fun h => Nat.lt_of_lt_of_le (hg1 h) hb15.size
  have hr25 := row2_keep hr21 (by omega) hb15
  have hg25 : 0 < n2 → g2 < W5.heap.size := fun h => Nat.lt_of_lt_of_le (hg21 h) hb15.size
  have hw5 := ab_trans hw1 hb15
  clear hO1 hr1 hg1 hr21 hg21 hw1 hb15
  go_upto_region 7 with (first
    | (refine bs0 rfl rfl (by simp only [List.map_toArray, List.map_nil]) ?_; intro W6 hown6 b6)
    | (at_builtin; refine app_own W5 rfl rfl Try.underlying33 infoPlc rfl (by omega) rfl hown6 (flat2 pls) rfl hz2 (by rw [flat2_len, hn2]) (row2_src (row2_keep hr25 (by omega) b6) hn2 hp2) (flat2_one pls) (by unfold maxLen; omega) (by omega) b6 ?_; intro v7 W7 hown7 hnil7 hb57 hgr7; rw [Nat.zero_add, List.nil_append] at hown7; obtain ⟨hlen7, q7, g7, cap7, rfl, hq7, hg7, -, -, hc7, -, hr7, hv7⟩ := own_row2 hown7; obtain ⟨rfl, -, hg7'⟩ := hv7 (fun e => by have := (hnil7.1 e).1; cases this)))
  clear hown6 b6 hown7 hnil7 hgr7 hq7 hg7 hv7 hlen7
  have hO7 := hO5.keep hb57
  have hr71 := irow_keep hr5 (by omega) hb57
  have hg71 : 0 < n → g < W7.heap.size := fun h => Nat.lt_of_lt_of_le (hg15 h) hb57.size
  have hr72 := row2_keep hr25 (by omega) hb57
  have hg72 : 0 < n2 → g2 < W7.heap.size := fun h => Nat.lt_of_lt_of_le (hg25 h) hb57.size
  have hr73 := irow_keep hrn (fun _ => hg5') hb57
  have hg73 := Nat.lt_of_lt_of_le hg5' hb57.size
  have h77 := keep_cell hb57 hr77 hg5'
  have hw7 := ab_trans hw5 hb57
  clear hO5 hr5 hg15 hr25 hg25 hw5 hb57 hrn hr77 hg5'
  refine wp_region_held_drew (S := fun w' => Below W7.heap.size W7 w') (by kernel_rfl) (ab_drew (Below.refl _ _)) (fun hHeld => ?_)
  refine takeH (i := 0) (some 36) rfl rfl (by kernel_rfl) (by kernel_rfl) (by kernel_rfl) (fun _ _ _ h => h) (by rfl) (fun w hSw => by (try dsimp only at hSw); exact ldopv rfl rfl (hO7.keep hSw)) hHeld ?_
  go_frame
  refine takeH (i := 1) (some 37) rfl rfl (by kernel_rfl) (by kernel_rfl) (by kernel_rfl) (fun _ _ _ h => h) (by rfl) (fun w hSw => by (try dsimp only at hSw); go_simp; try rfl) hHeld ?_
  go_frame
  refine takeH (i := 2) (some 38) rfl rfl (by kernel_rfl) (by kernel_rfl) (by kernel_rfl) (fun _ _ _ h => h) (by rfl) (fun w hSw => by (try dsimp only at hSw); go_simp; try rfl) hHeld ?_
  go_frame
  refine takeH (i := 4) (some 40) rfl rfl (by kernel_rfl) (by kernel_rfl) (by kernel_rfl) (fun _ _ _ h => h) (by rfl) (fun w hSw => by (try dsimp only at hSw); exact ldopv rfl rfl (hO7.keep hSw)) hHeld ?_
  go_frame
  refine takeH (i := 5) (some 41) rfl rfl (by kernel_rfl) (by kernel_rfl) (by kernel_rfl) (fun _ _ _ h => h) (by rfl) (fun w hSw => by (try dsimp only at hSw); go_simp; try rfl) hHeld ?_
  go_frame
  refine takeH (i := 6) (some 42) rfl rfl (by kernel_rfl) (by kernel_rfl) (by kernel_rfl) (fun _ _ _ h => h) (by rfl) (fun w hSw => by (try dsimp only at hSw); go_simp; try rfl) hHeld ?_
  go_frame
  refine wpAnyH_ready (rs := [3]) (by kernel_rfl) (by simp) (AllReadyH.cons rfl (fun K hK => ?_) AllReadyH.nil)
  go_simp
  refine (ids_any s0 s1 t key s4 _ g5 0 n cap5 l sh _ hn (by omega) (fun _ => rfl) (fun _ => Nat.lt_of_lt_of_le hg73 hHeld.size) (irow_keep hr73 (fun _ => hg73) hHeld) t0 t1 k0 k1 h1 hl).mono ?_
  rintro e V1 ⟨v, rfl, hown, hv, bn⟩
  show K _ _
  refine hK.out _ _ (ab_trans hHeld bn) (fun hHeld => ?_)
  clear hK K bn
  obtain ⟨hlenL, qa, ga, capa, rfl, hqa, hga, -, -, -, -, hra, -⟩ := own_row3 hown
  clear hown hv
  refine wpAnyH_ready (rs := [7]) (by kernel_rfl) (by simp) (AllReadyH.cons rfl (fun K hK => ?_) AllReadyH.nil)
  go_simp
  refine (rids_any s0 s1 t key s4 q g off n cap l sh _ hn (by omega) hp (fun h => Nat.lt_of_lt_of_le (hg71 h) hHeld.size) (irow_keep hr71 (by omega) hHeld) t0 t1 k0 k1 h1 hl).mono ?_
  rintro e V2 ⟨v, rfl, hown, bn⟩
  show K _ _
  have hra2 := row3_keep hra (by omega) bn
  have hga2 : 0 < n → ga < V2.heap.size := fun h => Nat.lt_of_lt_of_le (hga h) bn.size
  refine hK.out _ _ (ab_trans hHeld bn) (fun hHeld => ?_)
  clear hK K bn hra hga
  obtain ⟨-, qb, gb, capb, rfl, hqb, hgb, -, -, -, -, hrb, -⟩ := own_row3 hown
  clear hown
  refine wpAnyH_ready (rs := [8]) (by kernel_rfl) (by simp) (AllReadyH.cons rfl (fun K hK => ?_) AllReadyH.nil)
  go_simp
  refine (same_any qa ga 0 n capa qb gb 0 capb (idL t key sh l) _ hlenL (by omega) hqa hga2 hra2 hqb hgb hrb).mono ?_
  rintro e V3 ⟨rfl, bn⟩
  show K _ _
  refine hK.out _ _ (ab_trans hHeld bn) (fun hHeld => ?_)
  clear hK K bn hra2 hga2 hrb hgb hqa hqb
  refine takeH (i := 9) (some 45) rfl rfl (by kernel_rfl) (by kernel_rfl) (by kernel_rfl) (fun _ _ _ h => h) (by rfl) (fun w hSw => by (try dsimp only at hSw); go_simp; try rfl) hHeld ?_
  go_frame
  refine takeH (i := 10) (some 46) rfl rfl (by kernel_rfl) (by kernel_rfl) (by kernel_rfl) (fun _ _ _ h => h) (by rfl) (fun w hSw => by (try dsimp only at hSw); go_simp; try rfl) hHeld ?_
  go_frame
  refine takeH (i := 11) (some 47) rfl rfl (by kernel_rfl) (by kernel_rfl) (by kernel_rfl) (fun _ _ _ h => h) (by rfl) (fun w hSw => by (try dsimp only at hSw); exact ldopv rfl rfl (hO7.keep hSw)) hHeld ?_
  go_frame
  refine takeH (i := 12) (some 48) rfl rfl (by kernel_rfl) (by kernel_rfl) (by kernel_rfl) (fun _ _ _ h => h) (by rfl) (fun w hSw => by (try dsimp only at hSw); go_simp; try rfl) hHeld ?_
  go_frame
  refine takeH (i := 13) (some 49) rfl rfl (by kernel_rfl) (by kernel_rfl) (by kernel_rfl) (fun _ _ _ h => h) (by rfl) (fun w hSw => by (try dsimp only at hSw); go_simp; try rfl) hHeld ?_
  go_frame
  refine takeH (i := 14) (some 50) rfl rfl (by kernel_rfl) (by kernel_rfl) (by kernel_rfl) (fun _ _ _ h => h) (by rfl) (fun w hSw => by (try dsimp only at hSw); go_simp; try rfl) hHeld ?_
  go_frame
  refine takeH (i := 16) (some 52) rfl rfl (by kernel_rfl) (by kernel_rfl) (by kernel_rfl) (fun _ _ _ h => h) (by rfl) (fun w hSw => by (try dsimp only at hSw); exact ldopv rfl rfl (hO7.keep hSw)) hHeld ?_
  go_frame
  refine takeH (i := 17) (some 53) rfl rfl (by kernel_rfl) (by kernel_rfl) (by kernel_rfl) (fun _ _ _ h => h) (by rfl) (fun w hSw => by (try dsimp only at hSw); go_simp; try rfl) hHeld ?_
  go_frame
  refine takeH (i := 18) (some 54) rfl rfl (by kernel_rfl) (by kernel_rfl) (by kernel_rfl) (fun _ _ _ h => h) (by rfl) (fun w hSw => by (try dsimp only at hSw); go_simp; try rfl) hHeld ?_
  go_frame
  refine takeH (i := 19) (some 55) rfl rfl (by kernel_rfl) (by kernel_rfl) (by kernel_rfl) (fun _ _ _ h => h) (by rfl) (fun w hSw => by (try dsimp only at hSw); go_simp; try rfl) hHeld ?_
  go_frame
  refine wpAnyH_ready (rs := [15]) (by kernel_rfl) (by simp) (AllReadyH.cons rfl (fun K hK => ?_) AllReadyH.nil)
  go_simp
  refine (covered_any s0 s1 t key s4 _ g5 0 n cap5 l sh _ g7 0 n2 cap7 pls _ hn (by omega) (fun _ => rfl) (fun _ => Nat.lt_of_lt_of_le hg73 hHeld.size) (irow_keep hr73 (fun _ => hg73) hHeld) t0 t1 k0 k1 h1 hl hn2 (fun _ => rfl) (fun _ => Nat.lt_of_lt_of_le hg7' hHeld.size) (row2_keep hr7 (fun _ => hg7') hHeld)).mono ?_
  rintro e V4 ⟨rfl, bn⟩
  show K _ _
  refine hK.out _ _ (ab_trans hHeld bn) (fun hHeld => ?_)
  clear hK K bn
  refine wpAnyH_ready (rs := [20]) (by kernel_rfl) (by simp) (AllReadyH.cons rfl (fun K hK => ?_) AllReadyH.nil)
  go_simp
  refine (rcovered_any s0 s1 t key s4 q g off n cap l sh q2 g2 off2 n2 cap2 pls _ hn (by omega) hp (fun h => Nat.lt_of_lt_of_le (hg71 h) hHeld.size) (irow_keep hr71 (by omega) hHeld) t0 t1 k0 k1 h1 hl hn2 hp2 (fun h => Nat.lt_of_lt_of_le (hg72 h) hHeld.size) (row2_keep hr72 (by omega) hHeld)).mono ?_
  rintro e V5 ⟨rfl, bn⟩
  show K _ _
  refine hK.out _ _ (ab_trans hHeld bn) (fun hHeld => ?_)
  clear hK K bn
  generalize covL pls (idL t key sh l) = X
  refine takeH (i := 21) (some 57) rfl rfl (by kernel_rfl) (by kernel_rfl) (by kernel_rfl) (fun _ _ _ h => h) (by rfl) (fun w hSw => by (try dsimp only at hSw); go_simp; try rfl) hHeld ?_
  go_frame
  refine takeH (i := 22) (some 58) rfl rfl (by kernel_rfl) (by kernel_rfl) (by kernel_rfl) (fun _ _ _ h => h) (by rfl) (fun w hSw => by (try dsimp only at hSw); go_simp; try rfl) hHeld ?_
  go_frame
  refine wpAnyH_done (by kernel_rfl) ?_ _
  have hO8 := hO7.keep hHeld
  have hr81 := irow_keep hr71 (by omega) hHeld
  have hg81 : 0 < n → g < V5.heap.size := fun h => Nat.lt_of_lt_of_le (hg71 h) hHeld.size
  have hr82 := row2_keep hr72 (by omega) hHeld
  have hg82 : 0 < n2 → g2 < V5.heap.size := fun h => Nat.lt_of_lt_of_le (hg72 h) hHeld.size
  have hr83 := irow_keep hr73 (fun _ => hg73) hHeld
  have hg83 := Nat.lt_of_lt_of_le hg73 hHeld.size
  have hr84 := row2_keep hr7 (fun _ => hg7') hHeld
  have hg84 := Nat.lt_of_lt_of_le hg7' hHeld.size
  have h78 := keep_cell hHeld h77 hg73
  have hw8 := ab_trans hw7 hHeld
  clear hO7 hr71 hg71 hr72 hg72 hr73 hg73 hr7 hg7' h77 hw7 hHeld hl
  go_wp2_with fail
  go_loopw [61] (fun i wr => ∃ k : Nat, k ≤ n2 ∧ i = .int .i64 (k : Int) ∧ Below V5.heap.size V5 wr) (fun i _ => n2 - (intOf i).toNat)
  case atStart => exact ⟨0, by omega, rfl, Below.refl _ _⟩
  case round =>
    obtain ⟨k, hk, rfl, hwv⟩ := hrel
    by_cases c : k = n2
    · subst c
      have hr91 := irow_keep hr81 (by omega) hwv
      have hg91 : 0 < n → g < wr.heap.size := fun h => Nat.lt_of_lt_of_le (hg81 h) hwv.size
      have hr93 := irow_keep hr83 (fun _ => hg83) hwv
      have hg93 := Nat.lt_of_lt_of_le hg83 hwv.size
      have h79 := cls_cell (keep_cell hwv h78 hg83) hg93
      have hO9 := hO8.keep hwv
      have x3 := cls_cell hO9.five.2.2.2.1 hO9.lt
      have hw9 := ab_trans hw8 hwv
      clear hO8 hr81 hg81 hr82 hg82 hr83 hg83 hr84 hg84 h78 hw8 hwv
      go_upto_region 15 with fail
      refine wp_region_below (by kernel_rfl) (by kernel_rfl) ?_
      have HZ := cls_some wr
      have hnc : (n : Int) + 1 ≤ (cap5 : Int) := by omega
      repeat (go_big_quiet_step (first
        | (go_at_call 28; exact ints_cls _ g5 0 cap5 q g off cap hn (by omega) (fun _ => rfl) hp hr93 hr91 (fun _ => hg93) hg91 _)
        | (go_at_call 29; exact calls_drawn (shard_any _ _ _ k0 k1 h1))
        | (go_at_call 22; exact calls_same (rmod_any _ _ _ k0 k1 h1))))
      refine wpQuiet_nil ?_
      rintro _ ⟨x, rfl⟩
      go_wp2_with fail
      go_ret
      exact ⟨rfl, ab_trans hw9 x.prop⟩
    · obtain ⟨x, hx⟩ : ∃ x, pls[k]? = some x := ⟨pls[k], List.getElem?_eq_getElem (by omega)⟩
      obtain ⟨x0, x1⟩ := hr82 k x hx
      obtain ⟨y0, y1⟩ := hr84 k x hx
      obtain rfl := hp2 (by omega)
      have h1 := hg82 (by omega)
      have a0 := keep_cell hwv x0 h1
      have a1 := keep_cell hwv x1 h1
      have b0 := keep_cell hwv y0 hg84
      have b1 := keep_cell hwv y1 hg84
      rw [Nat.zero_add] at b0 b1
      have hki : (k : Int) < (n2 : Int) := by omega
      clear hr81 hr82 hr83 hr84 x0 x1 y0 y1 hx
      go_upto_region 12 with fail
      go_quiet (fail)
      go_wp2_with fail
      go_roundw
      case rel => exact ⟨k + 1, by omega, by go_num, ab_drewN hwv _⟩
      case measure => simp [intOf]; omega
end Go.Proofs.Ytffgndmcamedaaa
