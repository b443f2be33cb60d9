/-
  The cell that numbers begin with: cell.Take.
-/
import Derived.Test.YtnppdachbfcfkaaHistW
namespace Go.Proofs.Ytnppdachbfcfkaa
open Go.RowKit
set_option linter.unusedVariables false

def noTake : Value := .tuple #[.agg (CA zc), .slice none 0 0, .bool false]
theorem slc_ints : Try.prog.underlying 38 = some (.slice (Try.prog.elem 38)) := by kernel_rfl
theorem siz_ints (w : World) : (sizeOf (Try.prog.elem 38)).run Try.prog w = .ok 1 w := by kernel_rfl

theorem irow_keep2 {W W' : World} {g off : Nat} {l : List Int} (h : IRow W g off l) (hg : g < W.heap.size) (hb : Below W.heap.size W W') : IRow W' g off l := irow_keep h (fun _ => hg) hb
set_option maxHeartbeats 1000000 in
theorem take_short (q : Option Addr) (n cap : Nat) (w : World) (h : n < 10) :
    Calls Try.prog 20 #[.slice q n cap] w fun e w' => e = .returned noTake ∧ Below w.heap.size w w' := by
  have h' : (n : Int) < 10 := by omega
  go_enter Try.func20, Try.ntmps20
  go_wp2_with (first
    | (refine al_cell rfl rfl ?_; intro W1 e1 hR1 b1; clear e1)
    | (go_at_call 13; refine (unit_any _).mono ?_; rintro e W2 ⟨rfl, b2⟩; have hR2 := hR1.keep b2)
    | (refine st_cell rfl rfl hR2 rfl rfl ?_; intro W3 hR3 C3))
  exact bodyPost_ret (results_c3 rfl _ _ _ 31 _ (0, 0) _ _ _ rfl rfl rfl hR3 Try.underlying31 rfl (info_cell _)) rfl ⟨rfl, ab_chg (ab_trans b1 b2) C3 (Nat.le_refl _)⟩

/-- Behind the head. -/
theorem irow_behind {W : World} {g off o' : Nat} {l : List Int} (h : IRow W g off l) (ho : 10 < l.length → o' = off + 10) (hl : 10 ≤ l.length) : IRow W g o' (l.drop 10) := by
  by_cases c : 10 < l.length
  · rw [ho c]; exact irow_drop h 10
  · intro j x hx
    rw [List.drop_of_length_le (by omega)] at hx; simp at hx

set_option maxRecDepth 100000 in
set_option maxHeartbeats 2000000 in
theorem take_bad (g off n cap : Nat) (l : List Int) (w : World) (hn : l.length = n) (hb : n ≤ 5000) (hk : n ≤ cap) (h10 : 10 ≤ n) (hg : g < w.heap.size) (hr : IRow w g off l) (hbad : l.getD 9 0 < 0 ∨ (((n - 10) / 2 : Nat) : Int) < l.getD 9 0) :
    Calls Try.prog 20 #[.slice (some ⟨g, off, none⟩) n cap] w fun e w' => e = .returned noTake ∧ Below w.heap.size w w' := by
  have h' : ¬ (n : Int) < 10 := by omega
  have c9 : w.cell? ⟨g, off + 9, none⟩ = some (.int .i64 (l.getD 9 0)) := hr 9 _ (by rw [List.getD_eq_getElem?_getD, List.getElem?_eq_getElem (by omega)]; rfl)
  obtain ⟨o', es, fs⟩ := sliced_some g off 10 n cap 1
  have h9n : (9 : Int) < (n : Int) := by omega
  generalize l.getD 9 0 = y at *
  go_enter Try.func20, Try.ntmps20
  go_upto_region 3 with (refine al_cell rfl rfl ?_; intro W1 e1 hR1 b1; clear e1)
  have d9 := (b1.cell (p := ⟨g, off + 9, none⟩) hg).trans c9
  refine wp_region_held_drew (S := fun w' => w'.cell? ⟨g, off + 9, none⟩ = some (.int .i64 y) ∧ Blk w' w.heap.size (CA zc) 31 ∧ Below w.heap.size w w') (by kernel_rfl) ⟨d9, hR1.drew, ab_drew b1⟩ (fun hHeld => ?_)
  refine takeH (i := 0) (some 14) rfl rfl (by kernel_rfl) (by kernel_rfl) (by kernel_rfl) (fun _ _ _ h => h) (by rfl) (fun w hSw => by (try dsimp only at hSw); go_simp; try rfl) hHeld ?_
  go_frame
  refine takeH (i := 1) (some 15) rfl rfl (by kernel_rfl) (by kernel_rfl) (by kernel_rfl) (fun _ _ _ h => h) (by rfl) (fun w hSw => by (try dsimp only at hSw); go_simp; try rfl) hHeld ?_
  go_frame
  refine takeH (i := 2) (some 16) rfl rfl (by kernel_rfl) (by kernel_rfl) (by kernel_rfl) (fun _ _ _ h => h) (by rfl) (fun w hSw => by (try dsimp only at hSw); obtain ⟨s1, _, _⟩ := hSw; go_simp; try rfl) hHeld ?_
  go_frame
  refine takeH (i := 3) (some 17) rfl rfl (by kernel_rfl) (by kernel_rfl) (by kernel_rfl) (fun _ _ _ h => h) (by rfl) (fun w hSw => by (try dsimp only at hSw); go_simp; try rfl) hHeld ?_
  go_frame
  refine takeH (i := 4) (some 18) rfl rfl (by kernel_rfl) (by kernel_rfl) (by kernel_rfl) (fun _ _ _ h => h) (by rfl) (fun w hSw => by (try dsimp only at hSw); exact slo_l rfl rfl rfl rfl slc_ints (siz_ints _) h10 hk es) hHeld ?_
  go_frame
  refine takeH (i := 5) (some 5) rfl rfl (by kernel_rfl) (by kernel_rfl) (by kernel_rfl) (fun _ _ _ h => h) (by rfl) (fun w hSw => by (try dsimp only at hSw); go_simp; try rfl) hHeld ?_
  go_frame
  refine takeH (i := 6) (some 6) rfl rfl (by kernel_rfl) (by kernel_rfl) (by kernel_rfl) (fun _ _ _ h => h) (by rfl) (fun w hSw => by (try dsimp only at hSw); go_simp; try rfl) hHeld ?_
  go_frame
  refine wpAnyH_done (by kernel_rfl) ?_ _
  obtain ⟨_, hR, hw⟩ := hHeld
  clear d9 hR1 b1 es
  generalize W1.drew = V at *
  by_cases t1 : y < 0
  · go_wp2_with (first
      | (go_at_call 13; refine (unit_any _).mono ?_; rintro e W2 ⟨rfl, b2⟩; have hR2 := hR.keep b2)
      | (refine st_cell rfl rfl hR2 rfl rfl ?_; intro W3 hR3 C3))
    exact bodyPost_ret (results_c3 rfl _ _ _ 31 _ (0, 0) _ _ _ rfl rfl rfl hR3 Try.underlying31 rfl (info_cell _)) rfl ⟨rfl, ab_chg (ab_trans hw b2) C3 (Nat.le_refl _)⟩
  · have t1' : decide (y < 0) = false := decide_eq_false t1
    have t2 : (((n - 10 : Nat) : Int)) / 2 < y := by omega
    clear t1 hbad
    go_wp2_with (first
      | (go_at_call 13; refine (unit_any _).mono ?_; rintro e W2 ⟨rfl, b2⟩; have hR2 := hR.keep b2)
      | (refine st_cell rfl rfl hR2 rfl rfl ?_; intro W3 hR3 C3))
    exact bodyPost_ret (results_c3 rfl _ _ _ 31 _ (0, 0) _ _ _ rfl rfl rfl hR3 Try.underlying31 rfl (info_cell _)) rfl ⟨rfl, ab_chg (ab_trans hw b2) C3 (Nat.le_refl _)⟩

set_option maxRecDepth 100000 in
set_option maxHeartbeats 2000000 in
theorem take_no (g off n cap : Nat) (l : List Int) (ps : List PV) (more : List Int) (w : World) (hn : l.length = n) (hb : n ≤ 5000) (hk : n ≤ cap) (h10 : 10 ≤ n) (hg : g < w.heap.size) (hr : IRow w g off l) (hp : Parts l ps more) (hf : foldH ps = none) :
    Calls Try.prog 20 #[.slice (some ⟨g, off, none⟩) n cap] w fun e w' => e = .returned noTake ∧ Below w.heap.size w w' := by
  have h' : ¬ (n : Int) < 10 := by omega
  have c9 : w.cell? ⟨g, off + 9, none⟩ = some (.int .i64 (l.getD 9 0)) := hr 9 _ (by rw [List.getD_eq_getElem?_getD, List.getElem?_eq_getElem (by omega)]; rfl)
  obtain ⟨o', es, fs⟩ := sliced_some g off 10 n cap 1
  have h9n : (9 : Int) < (n : Int) := by omega
  have hrest := hp.rest
  have hlr := congrArg List.length hrest
  rw [List.length_drop, List.length_append, flatP_len, hn] at hlr
  rw [hp.nine] at c9
  have hps := irow_behind hr (o' := o') (fun c => by rw [fs (by omega)]) (by omega)
  rw [hrest] at hps
  have hpr : ∀ W, Below w.heap.size w W → IRow W g o' (flatP ps) := fun W hW => by
    have := irow_take (irow_keep2 hps hg hW) (flatP ps).length
    rwa [List.take_left] at this
  have hmr : ∀ W, Below w.heap.size w W → IRow W g (o' + 2 * ps.length) more := fun W hW => by
    have := irow_drop (irow_keep2 hps hg hW) (flatP ps).length
    rw [List.drop_left, flatP_len] at this
    exact this
  obtain ⟨m, hm⟩ : ∃ m, m = ps.length := ⟨_, rfl⟩
  have HM : Hid (ps.length = m) := hm.symm
  rw [← hm] at c9 hlr hmr
  have hmn : m ≤ (n - 10) / 2 := by omega
  clear hm hrest
  go_enter Try.func20, Try.ntmps20
  go_upto_region 3 with (refine al_cell rfl rfl ?_; intro W1 e1 hR1 b1; clear e1)
  have d9 := (b1.cell (p := ⟨g, off + 9, none⟩) hg).trans c9
  refine wp_region_held_drew (S := fun w' => w'.cell? ⟨g, off + 9, none⟩ = some (.int .i64 (m : Int)) ∧ Blk w' w.heap.size (CA zc) 31 ∧ Below w.heap.size w w') (by kernel_rfl) ⟨d9, hR1.drew, ab_drew b1⟩ (fun hHeld => ?_)
  refine takeH (i := 0) (some 14) rfl rfl (by kernel_rfl) (by kernel_rfl) (by kernel_rfl) (fun _ _ _ h => h) (by rfl) (fun w hSw => by (try dsimp only at hSw); go_simp; try rfl) hHeld ?_
  go_frame
  refine takeH (i := 1) (some 15) rfl rfl (by kernel_rfl) (by kernel_rfl) (by kernel_rfl) (fun _ _ _ h => h) (by rfl) (fun w hSw => by (try dsimp only at hSw); go_simp; try rfl) hHeld ?_
  go_frame
  refine takeH (i := 2) (some 16) rfl rfl (by kernel_rfl) (by kernel_rfl) (by kernel_rfl) (fun _ _ _ h => h) (by rfl) (fun w hSw => by (try dsimp only at hSw); obtain ⟨s1, _, _⟩ := hSw; go_simp; try rfl) hHeld ?_
  go_frame
  refine takeH (i := 3) (some 17) rfl rfl (by kernel_rfl) (by kernel_rfl) (by kernel_rfl) (fun _ _ _ h => h) (by rfl) (fun w hSw => by (try dsimp only at hSw); go_simp; try rfl) hHeld ?_
  go_frame
  refine takeH (i := 4) (some 18) rfl rfl (by kernel_rfl) (by kernel_rfl) (by kernel_rfl) (fun _ _ _ h => h) (by rfl) (fun w hSw => by (try dsimp only at hSw); exact slo_l rfl rfl rfl rfl slc_ints (siz_ints _) h10 hk es) hHeld ?_
  go_frame
  refine takeH (i := 5) (some 5) rfl rfl (by kernel_rfl) (by kernel_rfl) (by kernel_rfl) (fun _ _ _ h => h) (by rfl) (fun w hSw => by (try dsimp only at hSw); go_simp; try rfl) hHeld ?_
  go_frame
  refine takeH (i := 6) (some 6) rfl rfl (by kernel_rfl) (by kernel_rfl) (by kernel_rfl) (fun _ _ _ h => h) (by rfl) (fun w hSw => by (try dsimp only at hSw); go_simp; try rfl) hHeld ?_
  go_frame
  refine wpAnyH_done (by kernel_rfl) ?_ _
  obtain ⟨_, hR, hw⟩ := hHeld
  clear d9 hR1 b1 es
  generalize W1.drew = V at *
  have t2 : decide (((n - 10 : Nat) : Int) / 2 < (m : Int)) = false := decide_eq_false (by omega)
  have hm2 : 2 * m ≤ cap - 10 := by omega
  have hmi : 2 * (m : Int) ≤ 5000 := by omega
  have HF : Hid (foldH ps = none) := hf
  clear hf hmr
  go_wp2_with (first
    | (refine sl_h (h := 2 * m) rfl rfl rfl rfl slc_ints (siz_ints _) hm2 ?_)
    | (go_at_call 30; refine (histof_no (some ⟨g, o', none⟩) g o' (2 * m) (cap - 10) ps _ HF.out (by rw [HM.out]) (by omega) (fun _ => rfl) (fun _ => Nat.lt_of_lt_of_le hg hw.size) (hpr _ hw)).mono ?_; rintro e W2 ⟨rfl, b2⟩; have hR2 := hR.keep b2; have hw2 := ab_trans hw b2)
    | (refine al_hist rfl rfl ?_; intro W3 e3 hX3 b3; clear e3; have hR3 := hR2.keep b3; have hw3 := ab_trans hw2 b3)
    | (refine st_hist rfl rfl hX3 rfl rfl ?_; intro W4 hX4 C4; have hR4 := hR3.chg C4 (by have := hR2.lt; omega); have hw4 := ab_chg hw3 C4 hw2.size)
    | (go_at_call 13; refine (unit_any _).mono ?_; rintro e W5 ⟨rfl, b5⟩; have hR5 := hR4.keep b5)
    | (refine st_cell rfl rfl hR5 rfl rfl ?_; intro W6 hR6 C6))
  exact bodyPost_ret (results_c3 rfl _ _ _ 31 _ (0, 0) _ _ _ rfl rfl rfl hR6 Try.underlying31 rfl (info_cell _)) rfl ⟨rfl, ab_chg (ab_trans hw4 b5) C6 (Nat.le_refl _)⟩

theorem ldh_oper {o : Oper} {ρ : Operand → Value} {x : Operand} {b : Nat} {c : Nat → Int} {t : TypeId} {w : World} (ho : o.op = .load 29 x) (hx : ρ x = .pointer (some ⟨b, 0, none⟩)) (hB : Blk w b (HA c) t) :
    (execOp ρ o).run Try.prog w = .ok (.value (.agg (HA c))) w := by
  unfold execOp
  simp only [ho, hx, Instr.loadAt, Instr.sureAddr, Sem.run_bind, Sem.run_pure, Result.andThen_ok, run_loadVar_row w b t 29 (HA c) (0, 0) _ hB Try.underlying29 rfl (info_hist c)]
def takeC (x0 x1 x2 x3 x4 x5 x6 x7 x8 : Int) (h : Nat → Int) : Nat → Int := fun i => if i = 0 then x0 else if i = 1 then x1 else if i = 2 then x2 else if i = 3 then x3 else if i = 4 then x4 else if i = 5 then x5 else if i = 6 then x6 else if i = 7 then x7 else if i = 8 then x8 else h (i - 9)
theorem built_take (x0 x1 x2 x3 x4 x5 x6 x7 x8 : Int) (h : Nat → Int) : Try.prog.built 31 [(0, .int .i64 x0), (1, .agg #[.int .i64 x1, .int .u64 x2]), (2, .int .i64 x3), (3, .int .i64 x4), (4, .agg #[.int .i64 x5, .int .i64 x6, .int .i64 x7, .int .i64 x8]), (5, .agg (HA h))] =
    some (CA (takeC x0 x1 x2 x3 x4 x5 x6 x7 x8 h)) := by kernel_rfl
theorem own_chg2 {W W' : World} {base e size n b : Nat} {v : Value} {xs : List Value} {us : Array Value} {u : TypeId} (h : W.ownsRow base e size v n xs) (hB : Blk W b us u) (hc : Chg b W W') (hn : e ≠ u) : W'.ownsRow base e size v n xs := by
  refine ⟨h.1, ?_⟩
  rcases h.2 with h2 | ⟨g', cap', cur, e1, hb, hg, h4⟩
  · exact .inl h2
  · refine .inr ⟨g', cap', cur, e1, hb, Blk.chg hg hc ?_, h4⟩
    rintro rfl
    have f : W.heap[g']? = _ := hB
    rw [hg] at f
    cases f
    exact hn rfl
theorem i64_in (m : Nat) (h : m ≤ 9223372036854775807) : IntKind.i64.wrap (m : Int) = (m : Int) := by simp [IntKind.wrap, IntKind.signed, IntKind.bits]; omega
theorem u64_uw (x : Int) : IntKind.u64.wrap x = uw x := by simp [IntKind.wrap, IntKind.signed, IntKind.bits, uw]
theorem takeC_cell (l : List Int) (h : Nat → Int) : Eqv (takeC (l.getD 0 0) (l.getD 1 0) (IntKind.u64.wrap (l.getD 2 0)) (l.getD 3 0) (l.getD 4 0) (l.getD 5 0) (l.getD 6 0) (l.getD 7 0) (l.getD 8 0) h) (cellOf l h) := by
  intro i hi
  rw [u64_uw]
  unfold takeC cellOf
  match i with
  | 0 | 1 | 2 | 3 | 4 | 5 | 6 | 7 | 8 => rfl
  | n + 9 => rw [if_neg (by omega), if_neg (by omega), if_neg (by omega), if_neg (by omega), if_neg (by omega), if_neg (by omega), if_neg (by omega), if_neg (by omega), if_neg (by omega), if_neg (by omega)]

set_option maxRecDepth 100000 in
set_option maxHeartbeats 2000000 in
theorem take_yes (g off n cap : Nat) (l : List Int) (ps : List PV) (more : List Int) (nx : Nat) (h : Nat → Int) (w : World) (hn : l.length = n) (hb : n ≤ 5000) (hk : n ≤ cap) (h10 : 10 ≤ n) (hg : g < w.heap.size) (hr : IRow w g off l) (hp : Parts l ps more) (hf : foldH ps = some (nx, h)) :
    Calls Try.prog 20 #[.slice (some ⟨g, off, none⟩) n cap] w fun e w' => ∃ v, e = .returned (.tuple #[.agg (CA (cellOf l h)), v, .bool true]) ∧ w'.ownsRow w.heap.size 3 1 v more.length (ints more) ∧ Below w.heap.size w w' := by
  have HC : Hid (CA (takeC (l.getD 0 0) (l.getD 1 0) (IntKind.u64.wrap (l.getD 2 0)) (l.getD 3 0) (l.getD 4 0) (l.getD 5 0) (l.getD 6 0) (l.getD 7 0) (l.getD 8 0) h) = CA (cellOf l h)) := CA_congr (takeC_cell l h)
  have cl : ∀ i, i < 10 → ∀ W, Below w.heap.size w W → W.cell? ⟨g, off + i, none⟩ = some (.int .i64 (l.getD i 0)) := fun i hi W hW => (hW.cell (p := ⟨g, off + i, none⟩) hg).trans (hr i _ (by rw [List.getD_eq_getElem?_getD, List.getElem?_eq_getElem (by omega)]; rfl))
  have h' : ¬ (n : Int) < 10 := by omega
  have c9 : w.cell? ⟨g, off + 9, none⟩ = some (.int .i64 (l.getD 9 0)) := hr 9 _ (by rw [List.getD_eq_getElem?_getD, List.getElem?_eq_getElem (by omega)]; rfl)
  obtain ⟨o', es, fs⟩ := sliced_some g off 10 n cap 1
  have h9n : (9 : Int) < (n : Int) := by omega
  have hrest := hp.rest
  have hlr := congrArg List.length hrest
  rw [List.length_drop, List.length_append, flatP_len, hn] at hlr
  rw [hp.nine] at c9
  have hps := irow_behind hr (o' := o') (fun c => by rw [fs (by omega)]) (by omega)
  rw [hrest] at hps
  have hpr : ∀ W, Below w.heap.size w W → IRow W g o' (flatP ps) := fun W hW => by
    have := irow_take (irow_keep2 hps hg hW) (flatP ps).length
    rwa [List.take_left] at this
  have hmr : ∀ W, Below w.heap.size w W → IRow W g (o' + 2 * ps.length) more := fun W hW => by
    have := irow_drop (irow_keep2 hps hg hW) (flatP ps).length
    rw [List.drop_left, flatP_len] at this
    exact this
  obtain ⟨m, hm⟩ : ∃ m, m = ps.length := ⟨_, rfl⟩
  have HM : Hid (ps.length = m) := hm.symm
  rw [← hm] at c9 hlr hmr
  have hmn : m ≤ (n - 10) / 2 := by omega
  clear hm hrest
  have L0 := cl 0 (by omega)
  rw [Nat.add_zero] at L0
  have L1 := cl 1 (by omega)
  have L2 := cl 2 (by omega)
  have L3 := cl 3 (by omega)
  have L4 := cl 4 (by omega)
  have L5 := cl 5 (by omega)
  have L6 := cl 6 (by omega)
  have L7 := cl 7 (by omega)
  have L8 := cl 8 (by omega)
  clear cl
  generalize l.getD 0 0 = y0 at *
  generalize l.getD 1 0 = y1 at *
  generalize l.getD 2 0 = y2 at *
  generalize l.getD 3 0 = y3 at *
  generalize l.getD 4 0 = y4 at *
  generalize l.getD 5 0 = y5 at *
  generalize l.getD 6 0 = y6 at *
  generalize l.getD 7 0 = y7 at *
  generalize l.getD 8 0 = y8 at *
  go_enter Try.func20, Try.ntmps20
  go_upto_region 3 with (refine al_cell rfl rfl ?_; intro W1 e1 hR1 b1; clear e1)
  have d9 := (b1.cell (p := ⟨g, off + 9, none⟩) hg).trans c9
  refine wp_region_held_drew (S := fun w' => w'.cell? ⟨g, off + 9, none⟩ = some (.int .i64 (m : Int)) ∧ Blk w' w.heap.size (CA zc) 31 ∧ Below w.heap.size w w') (by kernel_rfl) ⟨d9, hR1.drew, ab_drew b1⟩ (fun hHeld => ?_)
  refine takeH (i := 0) (some 14) rfl rfl (by kernel_rfl) (by kernel_rfl) (by kernel_rfl) (fun _ _ _ h => h) (by rfl) (fun w hSw => by (try dsimp only at hSw); go_simp; try rfl) hHeld ?_
  go_frame
  refine takeH (i := 1) (some 15) rfl rfl (by kernel_rfl) (by kernel_rfl) (by kernel_rfl) (fun _ _ _ h => h) (by rfl) (fun w hSw => by (try dsimp only at hSw); go_simp; try rfl) hHeld ?_
  go_frame
  refine takeH (i := 2) (some 16) rfl rfl (by kernel_rfl) (by kernel_rfl) (by kernel_rfl) (fun _ _ _ h => h) (by rfl) (fun w hSw => by (try dsimp only at hSw); obtain ⟨s1, _, _⟩ := hSw; go_simp; try rfl) hHeld ?_
  go_frame
  refine takeH (i := 3) (some 17) rfl rfl (by kernel_rfl) (by kernel_rfl) (by kernel_rfl) (fun _ _ _ h => h) (by rfl) (fun w hSw => by (try dsimp only at hSw); go_simp; try rfl) hHeld ?_
  go_frame
  refine takeH (i := 4) (some 18) rfl rfl (by kernel_rfl) (by kernel_rfl) (by kernel_rfl) (fun _ _ _ h => h) (by rfl) (fun w hSw => by (try dsimp only at hSw); exact slo_l rfl rfl rfl rfl slc_ints (siz_ints _) h10 hk es) hHeld ?_
  go_frame
  refine takeH (i := 5) (some 5) rfl rfl (by kernel_rfl) (by kernel_rfl) (by kernel_rfl) (fun _ _ _ h => h) (by rfl) (fun w hSw => by (try dsimp only at hSw); go_simp; try rfl) hHeld ?_
  go_frame
  refine takeH (i := 6) (some 6) rfl rfl (by kernel_rfl) (by kernel_rfl) (by kernel_rfl) (fun _ _ _ h => h) (by rfl) (fun w hSw => by (try dsimp only at hSw); go_simp; try rfl) hHeld ?_
  go_frame
  refine wpAnyH_done (by kernel_rfl) ?_ _
  obtain ⟨_, hR, hw⟩ := hHeld
  clear d9 hR1 b1 es
  generalize W1.drew = V at *
  have t2 : decide (((n - 10 : Nat) : Int) / 2 < (m : Int)) = false := decide_eq_false (by omega)
  have hm2 : 2 * m ≤ cap - 10 := by omega
  have hmi : 2 * (m : Int) ≤ 5000 := by omega
  have HF : Hid (foldH ps = some (nx, h)) := hf
  clear hf
  go_upto_region 9 with (first
    | (refine sl_h (h := 2 * m) rfl rfl rfl rfl slc_ints (siz_ints _) hm2 ?_)
    | (go_at_call 30; refine (histof_yes (some ⟨g, o', none⟩) g o' (2 * m) (cap - 10) ps nx h _ HF.out (by rw [HM.out]) (by omega) (fun _ => rfl) (fun _ => Nat.lt_of_lt_of_le hg hw.size) (hpr _ hw)).mono ?_; rintro e W2 ⟨rfl, b2⟩; have hR2 := hR.keep b2; have hw2 := ab_trans hw b2)
    | (refine al_hist rfl rfl ?_; intro W3 e3 hX3 b3; clear e3; have hR3 := hR2.keep b3; have hw3 := ab_trans hw2 b3)
    | (refine st_hist rfl rfl hX3 rfl rfl ?_; intro W4 hX4 C4; have hR4 := hR3.chg C4 (by have := hR2.lt; omega); have hw4 := ab_chg hw3 C4 hw2.size))
  have hj0 : 0 < n := by omega
  have hj1 : (1 : Int) < (n : Int) := by omega
  have hj2 : (2 : Int) < (n : Int) := by omega
  have hj3 : (3 : Int) < (n : Int) := by omega
  have hj4 : (4 : Int) < (n : Int) := by omega
  have hj5 : (5 : Int) < (n : Int) := by omega
  have hj6 : (6 : Int) < (n : Int) := by omega
  have hj7 : (7 : Int) < (n : Int) := by omega
  have hj8 : (8 : Int) < (n : Int) := by omega
  have hRX : w.heap.size < W2.heap.size := hR2.lt
  clear hR hR2 hR3 hX3 hw hw2 hw3 b2 b3 C4 HF
  generalize W2.heap.size = X at *
  refine wp_region_held_drew (S := fun w' => Blk w' X (HA h) 29 ∧ Blk w' w.heap.size (CA zc) 31 ∧ Below w.heap.size w w') (by kernel_rfl) ⟨hX4.drew, hR4.drew, ab_drew hw4⟩ (fun hHeld => ?_)
  refine takeH (i := 0) (some 40) rfl rfl (by kernel_rfl) (by kernel_rfl) (by kernel_rfl) (fun _ _ _ h => h) (by rfl) (fun w hSw => by (try dsimp only at hSw); go_simp; try rfl) hHeld ?_
  go_frame
  refine takeH (i := 1) (some 41) rfl rfl (by kernel_rfl) (by kernel_rfl) (by kernel_rfl) (fun _ _ _ h => h) (by rfl) (fun w hSw => by (try dsimp only at hSw); go_simp; try rfl) hHeld ?_
  go_frame
  refine takeH (i := 2) (some 42) rfl rfl (by kernel_rfl) (by kernel_rfl) (by kernel_rfl) (fun _ _ _ h => h) (by rfl) (fun w hSw => by (try dsimp only at hSw); have s1 := L0 _ hSw.2.2; go_simp; try rfl) hHeld ?_
  go_frame
  refine takeH (i := 3) (some 43) rfl rfl (by kernel_rfl) (by kernel_rfl) (by kernel_rfl) (fun _ _ _ h => h) (by rfl) (fun w hSw => by (try dsimp only at hSw); go_simp; try rfl) hHeld ?_
  go_frame
  refine takeH (i := 4) (some 44) rfl rfl (by kernel_rfl) (by kernel_rfl) (by kernel_rfl) (fun _ _ _ h => h) (by rfl) (fun w hSw => by (try dsimp only at hSw); go_simp; try rfl) hHeld ?_
  go_frame
  refine takeH (i := 5) (some 45) rfl rfl (by kernel_rfl) (by kernel_rfl) (by kernel_rfl) (fun _ _ _ h => h) (by rfl) (fun w hSw => by (try dsimp only at hSw); have s1 := L1 _ hSw.2.2; go_simp; try rfl) hHeld ?_
  go_frame
  refine takeH (i := 6) (some 46) rfl rfl (by kernel_rfl) (by kernel_rfl) (by kernel_rfl) (fun _ _ _ h => h) (by rfl) (fun w hSw => by (try dsimp only at hSw); go_simp; try rfl) hHeld ?_
  go_frame
  refine takeH (i := 7) (some 47) rfl rfl (by kernel_rfl) (by kernel_rfl) (by kernel_rfl) (fun _ _ _ h => h) (by rfl) (fun w hSw => by (try dsimp only at hSw); go_simp; try rfl) hHeld ?_
  go_frame
  refine takeH (i := 8) (some 48) rfl rfl (by kernel_rfl) (by kernel_rfl) (by kernel_rfl) (fun _ _ _ h => h) (by rfl) (fun w hSw => by (try dsimp only at hSw); have s1 := L2 _ hSw.2.2; go_simp; try rfl) hHeld ?_
  go_frame
  refine takeH (i := 9) (some 49) rfl rfl (by kernel_rfl) (by kernel_rfl) (by kernel_rfl) (fun _ _ _ h => h) (by rfl) (fun w hSw => by (try dsimp only at hSw); go_simp; try rfl) hHeld ?_
  go_frame
  refine takeH (i := 10) (some 50) rfl rfl (by kernel_rfl) (by kernel_rfl) (by kernel_rfl) (fun _ _ _ h => h) (by rfl) (fun w hSw => by (try dsimp only at hSw); go_simp; try rfl) hHeld ?_
  go_frame
  refine takeH (i := 11) (some 51) rfl rfl (by kernel_rfl) (by kernel_rfl) (by kernel_rfl) (fun _ _ _ h => h) (by rfl) (fun w hSw => by (try dsimp only at hSw); go_simp; try rfl) hHeld ?_
  go_frame
  refine takeH (i := 12) (some 52) rfl rfl (by kernel_rfl) (by kernel_rfl) (by kernel_rfl) (fun _ _ _ h => h) (by rfl) (fun w hSw => by (try dsimp only at hSw); go_simp; try rfl) hHeld ?_
  go_frame
  refine takeH (i := 13) (some 53) rfl rfl (by kernel_rfl) (by kernel_rfl) (by kernel_rfl) (fun _ _ _ h => h) (by rfl) (fun w hSw => by (try dsimp only at hSw); have s1 := L3 _ hSw.2.2; go_simp; try rfl) hHeld ?_
  go_frame
  refine takeH (i := 14) (some 54) rfl rfl (by kernel_rfl) (by kernel_rfl) (by kernel_rfl) (fun _ _ _ h => h) (by rfl) (fun w hSw => by (try dsimp only at hSw); go_simp; try rfl) hHeld ?_
  go_frame
  refine takeH (i := 15) (some 55) rfl rfl (by kernel_rfl) (by kernel_rfl) (by kernel_rfl) (fun _ _ _ h => h) (by rfl) (fun w hSw => by (try dsimp only at hSw); go_simp; try rfl) hHeld ?_
  go_frame
  refine takeH (i := 16) (some 56) rfl rfl (by kernel_rfl) (by kernel_rfl) (by kernel_rfl) (fun _ _ _ h => h) (by rfl) (fun w hSw => by (try dsimp only at hSw); have s1 := L4 _ hSw.2.2; go_simp; try rfl) hHeld ?_
  go_frame
  refine takeH (i := 17) (some 57) rfl rfl (by kernel_rfl) (by kernel_rfl) (by kernel_rfl) (fun _ _ _ h => h) (by rfl) (fun w hSw => by (try dsimp only at hSw); go_simp; try rfl) hHeld ?_
  go_frame
  refine takeH (i := 18) (some 58) rfl rfl (by kernel_rfl) (by kernel_rfl) (by kernel_rfl) (fun _ _ _ h => h) (by rfl) (fun w hSw => by (try dsimp only at hSw); go_simp; try rfl) hHeld ?_
  go_frame
  refine takeH (i := 19) (some 59) rfl rfl (by kernel_rfl) (by kernel_rfl) (by kernel_rfl) (fun _ _ _ h => h) (by rfl) (fun w hSw => by (try dsimp only at hSw); have s1 := L5 _ hSw.2.2; go_simp; try rfl) hHeld ?_
  go_frame
  refine takeH (i := 20) (some 60) rfl rfl (by kernel_rfl) (by kernel_rfl) (by kernel_rfl) (fun _ _ _ h => h) (by rfl) (fun w hSw => by (try dsimp only at hSw); go_simp; try rfl) hHeld ?_
  go_frame
  refine takeH (i := 21) (some 61) rfl rfl (by kernel_rfl) (by kernel_rfl) (by kernel_rfl) (fun _ _ _ h => h) (by rfl) (fun w hSw => by (try dsimp only at hSw); go_simp; try rfl) hHeld ?_
  go_frame
  refine takeH (i := 22) (some 62) rfl rfl (by kernel_rfl) (by kernel_rfl) (by kernel_rfl) (fun _ _ _ h => h) (by rfl) (fun w hSw => by (try dsimp only at hSw); have s1 := L6 _ hSw.2.2; go_simp; try rfl) hHeld ?_
  go_frame
  refine takeH (i := 23) (some 63) rfl rfl (by kernel_rfl) (by kernel_rfl) (by kernel_rfl) (fun _ _ _ h => h) (by rfl) (fun w hSw => by (try dsimp only at hSw); go_simp; try rfl) hHeld ?_
  go_frame
  refine takeH (i := 24) (some 64) rfl rfl (by kernel_rfl) (by kernel_rfl) (by kernel_rfl) (fun _ _ _ h => h) (by rfl) (fun w hSw => by (try dsimp only at hSw); go_simp; try rfl) hHeld ?_
  go_frame
  refine takeH (i := 25) (some 65) rfl rfl (by kernel_rfl) (by kernel_rfl) (by kernel_rfl) (fun _ _ _ h => h) (by rfl) (fun w hSw => by (try dsimp only at hSw); have s1 := L7 _ hSw.2.2; go_simp; try rfl) hHeld ?_
  go_frame
  refine takeH (i := 26) (some 66) rfl rfl (by kernel_rfl) (by kernel_rfl) (by kernel_rfl) (fun _ _ _ h => h) (by rfl) (fun w hSw => by (try dsimp only at hSw); go_simp; try rfl) hHeld ?_
  go_frame
  refine takeH (i := 27) (some 67) rfl rfl (by kernel_rfl) (by kernel_rfl) (by kernel_rfl) (fun _ _ _ h => h) (by rfl) (fun w hSw => by (try dsimp only at hSw); go_simp; try rfl) hHeld ?_
  go_frame
  refine takeH (i := 28) (some 68) rfl rfl (by kernel_rfl) (by kernel_rfl) (by kernel_rfl) (fun _ _ _ h => h) (by rfl) (fun w hSw => by (try dsimp only at hSw); have s1 := L8 _ hSw.2.2; go_simp; try rfl) hHeld ?_
  go_frame
  refine takeH (i := 29) (some 69) rfl rfl (by kernel_rfl) (by kernel_rfl) (by kernel_rfl) (fun _ _ _ h => h) (by rfl) (fun w hSw => by (try dsimp only at hSw); go_simp; try rfl) hHeld ?_
  go_frame
  refine takeH (i := 30) (some 70) rfl rfl (by kernel_rfl) (by kernel_rfl) (by kernel_rfl) (fun _ _ _ h => h) (by rfl) (fun w hSw => by (try dsimp only at hSw); exact ldh_oper rfl rfl hSw.1) hHeld ?_
  go_frame
  refine takeH (i := 31) (some 71) rfl rfl (by kernel_rfl) (by kernel_rfl) (by kernel_rfl) (fun _ _ _ h => h) (by rfl) (fun w hSw => by (try dsimp only at hSw); exact bd_run rfl (built_take y0 y1 (IntKind.u64.wrap y2) y3 y4 y5 y6 y7 y8 h) (by simp only [List.map_toArray, List.map_cons, List.map_nil]; rfl) w) hHeld ?_
  go_frame
  refine wpAnyH_ready (rs := [32]) (by kernel_rfl) (by simp) (AllReadyH.cons rfl (fun K hK => ?_) AllReadyH.nil)
  rw [if_pos (by rfl)]
  refine alW (some 9) rfl rfl (CA zc) (zero_cell _) fun W5 hY5 b5 => ?_
  have hRl := hHeld.2.1.lt
  have hXl0 := hHeld.1.lt
  refine hK.out _ _ ⟨hHeld.1.keep b5, hHeld.2.1.keep b5, ab_trans hHeld.2.2 b5⟩ (fun hHeld => ?_)
  clear hK K b5
  go_frame
  refine wpAnyH_ready (rs := [33]) (by kernel_rfl) (by simp) (AllReadyH.cons rfl (fun K hK => ?_) AllReadyH.nil)
  rw [if_pos (by rfl)]
  refine stW none rfl rfl hY5 rfl rfl (info_cell _) (by rw [CA_size, CA_size]) (CA_one _) fun W6 hY6 C6 => ?_
  refine hK.out _ _ ⟨hHeld.1.chg C6 (by omega), hHeld.2.1.chg C6 (by omega), ab_chg hHeld.2.2 C6 (by omega)⟩ (fun hHeld => ?_)
  clear hK K C6 hY5
  refine wpAnyH_done (by kernel_rfl) ?_ _
  go_frame
  rw [HC.out] at hY6
  obtain ⟨_, hR6, hw6⟩ := hHeld
  clear hX4 hR4 hw4 HC L0 L1 L2 L3 L4 L5 L6 L7 L8 hj0 hj1 hj2 hj3 hj4 hj5 hj6 hj7 hj8
  obtain ⟨Y, hY⟩ : ∃ Y, Y = W4.drew.heap.size := ⟨_, rfl⟩
  rw [← hY] at hY6 hRl hXl0 ⊢
  clear hY
  obtain ⟨o2, es2, fs2⟩ := sliced_some g o' (2 * m) (2 * m + more.length) (cap - 10) 1
  go_upto_region 10 with fail
  refine wp_region_held_drew (S := fun w' => Blk w' Y (CA (cellOf l h)) 31 ∧ Below w.heap.size w w') (by kernel_rfl) ⟨hY6.drew, ab_drew hw6⟩ (fun hHeld => ?_)
  have hR := hR6.drew
  refine takeH (i := 0) (some 72) rfl rfl (by kernel_rfl) (by kernel_rfl) (by kernel_rfl) (fun _ _ _ h => h) (by rfl) (fun w hSw => by (try dsimp only at hSw); exact ld_oper rfl rfl hSw.1) hHeld ?_
  go_frame
  refine takeH (i := 1) (some 73) rfl rfl (by kernel_rfl) (by kernel_rfl) (by kernel_rfl) (fun _ _ _ h => h) (by rfl) (fun w hSw => by (try dsimp only at hSw); go_simp; try rfl) hHeld ?_
  go_frame
  refine takeH (i := 2) (some 74) rfl rfl (by kernel_rfl) (by kernel_rfl) (by kernel_rfl) (fun _ _ _ h => h) (by rfl) (fun w hSw => by (try dsimp only at hSw); go_simp; try rfl) hHeld ?_
  go_frame
  refine takeH (i := 3) (some 75) rfl rfl (by kernel_rfl) (by kernel_rfl) (by kernel_rfl) (fun _ _ _ h => h) (by rfl) (fun w hSw => by (try dsimp only at hSw); go_simp; try rfl) hHeld ?_
  go_frame
  refine takeH (i := 4) (some 76) rfl rfl (by kernel_rfl) (by kernel_rfl) (by kernel_rfl) (fun _ _ _ h => h) (by rfl) (fun w hSw => by (try dsimp only at hSw); exact slo_l rfl rfl rfl (i64_in (2 * m) (by omega)) slc_ints (siz_ints _) (by omega) (by omega) es2) hHeld ?_
  go_frame
  refine wpAnyH_ready (rs := [5]) (by kernel_rfl) (by simp) (AllReadyH.cons rfl (fun K hK => ?_) AllReadyH.nil)
  rw [if_pos (by rfl)]
  refine appW (v := .slice none 0 0) (n := 0) (xs := []) w (some 77) rfl rfl Try.underlying38 infoInt rfl (by decide) rfl (World.ownsRow_nil _ _ _ _) (ints more) rfl ?c1 ?c2 ?c3 ?c4 ?c5 ?c6 hHeld.2 ?_
  case c1 => intro e; cases e
  case c2 => simp [ints]
  case c3 =>
    intro ad had j u hu
    cases had
    have hj : j < more.length := by have := (List.getElem?_eq_some_iff.1 hu).1; rwa [ints_len] at this
    rw [ints_at, List.getElem?_eq_getElem hj] at hu
    cases hu
    rw [Addr.add_mid, fs2 (by omega), Nat.mul_one]
    exact hmr _ hHeld.2 j _ (List.getElem?_eq_getElem hj)
  case c4 => exact ints_one _
  case c5 => unfold maxLen; omega
  case c6 => omega
  intro v' W7 hown' _ b7 hgrow
  have hY7 : Blk W7 Y (CA (cellOf l h)) 31 := by unfold Blk; rw [hgrow.block _ hHeld.1.lt (by intro e; cases e)]; exact hHeld.1
  have hR7 : Blk W7 w.heap.size (CA zc) 31 := by unfold Blk; rw [hgrow.block _ hR.lt (by intro e; cases e)]; exact hR
  refine hK.out _ _ ⟨hY7, b7⟩ (fun hHeld => ?_)
  clear hK K hgrow
  go_frame
  refine wpAnyH_ready (rs := [6]) (by kernel_rfl) (by simp) (AllReadyH.cons rfl (fun K hK => ?_) AllReadyH.nil)
  rw [if_pos (by rfl)]
  refine stW none rfl rfl hR7 rfl rfl (info_cell _) (by rw [CA_size, CA_size]) (CA_one _) fun W8 hR8 C8 => ?_
  have hY8 := hHeld.1.chg C8 (by omega)
  have hw8 := ab_chg hHeld.2 C8 (by omega)
  have hown8 := own_chg2 hown' hR7 C8 (by decide)
  refine hK.out _ _ ⟨hY8, hw8⟩ (fun hHeld => ?_)
  clear hK K
  go_frame
  refine takeH (i := 7) (some 3) rfl rfl (by kernel_rfl) (by kernel_rfl) (by kernel_rfl) (fun _ _ _ h => h) (by rfl) (fun w hSw => by (try dsimp only at hSw); go_simp; try rfl) hHeld ?_
  go_frame
  refine takeH (i := 8) (some 4) rfl rfl (by kernel_rfl) (by kernel_rfl) (by kernel_rfl) (fun _ _ _ h => h) (by rfl) (fun w hSw => by (try dsimp only at hSw); go_simp; try rfl) hHeld ?_
  go_frame
  refine wpAnyH_done (by kernel_rfl) ?_ _
  go_wp2_with fail
  rw [List.nil_append, Nat.zero_add, Nat.add_sub_cancel_left] at hown8
  exact bodyPost_ret (results_c3 rfl _ _ _ 31 _ (0, 0) _ _ _ rfl rfl rfl hR8 Try.underlying31 rfl (info_cell _)) rfl ⟨_, rfl, hown8, hw8⟩
end Go.Proofs.Ytnppdachbfcfkaa
