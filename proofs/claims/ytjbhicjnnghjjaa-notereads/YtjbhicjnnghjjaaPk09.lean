/-
  The cell that numbers begin with: cell.Take.
  The document's numbers of a cell: estuaryref02.Nums.
  The numbers of a cell: cell.Nums.
  cell.Take at every row of numbers; cells compared by '!='.
-/
import Derived.Test.YtjbhicjnnghjjaaPk08
import Derived.Test.YtjbhicjnnghjjaaPk03
import Derived.Maps.OwnIn
namespace Go.Proofs.Ytjbhicjnnghjjaa
open Go.RowKit
set_option linter.unusedVariables false

def noTake : Value := .tuple #[.agg (CA zc), .slice none 0 0, .bool false]
theorem slc_ints : Try.prog.underlying 22 = some (.slice (Try.prog.elem 22)) := by kernel_rfl
theorem siz_ints (w : World) : (sizeOf (Try.prog.elem 22)).run Try.prog w = .ok 1 w := by kernel_rfl

theorem irow_keep2 {W W' : World} {g off : Nat} {l : List Int} (h : IRow W g off l) (hg : g < W.heap.size) (hb : Below W.heap.size W W') : IRow W' g off l := irow_keep h (fun _ => hg) hb
set_option maxHeartbeats 1000000 in
theorem take_short (q : Option Addr) (n cap : Nat) (w : World) (h : n < 10) :
    Calls Try.prog 68 #[.slice q n cap] w fun e w' => e = .returned noTake ∧ Below w.heap.size w w' := by
  have h' : (n : Int) < 10 := by omega
  go_enter Try.func68, Try.ntmps68
  go_wp2_with (first
    | (refine al_cell rfl rfl ?_; intro W1 e1 hR1 b1; clear e1)
    | (go_at_call 69; refine (unit_any _).mono ?_; rintro e W2 ⟨rfl, b2⟩; have hR2 := hR1.keep b2)
    | (refine st_cell rfl rfl hR2 rfl rfl ?_; intro W3 hR3 C3))
  exact bodyPost_ret (results_c3 rfl _ _ _ 80 _ (0, 0) _ _ _ rfl rfl rfl hR3 Try.underlying80 rfl (info_cell _)) rfl ⟨rfl, ab_chg (ab_trans b1 b2) C3 (Nat.le_refl _)⟩

/-- Behind the head. -/
theorem irow_behind {W : World} {g off o' : Nat} {l : List Int} (h : IRow W g off l) (ho : 10 < l.length → o' = off + 10) (hl : 10 ≤ l.length) : IRow W g o' (l.drop 10) := by
  by_cases c : 10 < l.length
  · rw [ho c]; exact irow_drop h 10
  · intro j x hx
    rw [List.drop_of_length_le (by omega)] at hx; simp at hx

set_option maxRecDepth 100000 in
set_option maxHeartbeats 2000000 in
theorem take_bad (g off n cap : Nat) (l : List Int) (w : World) (hn : l.length = n) (hb : n ≤ 20000) (hk : n ≤ cap) (h10 : 10 ≤ n) (hg : g < w.heap.size) (hr : IRow w g off l) (hbad : l.getD 9 0 < 0 ∨ (((n - 10) / 2 : Nat) : Int) < l.getD 9 0) :
    Calls Try.prog 68 #[.slice (some ⟨g, off, none⟩) n cap] w fun e w' => e = .returned noTake ∧ Below w.heap.size w w' := by
  have h' : ¬ (n : Int) < 10 := by omega
  have c9 : w.cell? ⟨g, off + 9, none⟩ = some (.int .i64 (l.getD 9 0)) := hr 9 _ (by rw [List.getD_eq_getElem?_getD, List.getElem?_eq_getElem (by omega)]; rfl)
  obtain ⟨o', es, fs⟩ := sliced_some g off 10 n cap 1
  have h9n : (9 : Int) < (n : Int) := by omega
  generalize l.getD 9 0 = y at *
  go_enter Try.func68, Try.ntmps68
  go_upto_region 3 with (refine al_cell rfl rfl ?_; intro W1 e1 hR1 b1; clear e1)
  have d9 := (b1.cell (p := ⟨g, off + 9, none⟩) hg).trans c9
  refine wp_region_held_drew (S := fun w' => w'.cell? ⟨g, off + 9, none⟩ = some (.int .i64 y) ∧ Blk w' w.heap.size (CA zc) 80 ∧ Below w.heap.size w w') (by kernel_rfl) ⟨d9, hR1.drew, ab_drew b1⟩ (fun hHeld => ?_)
  refine takeH (i := 0) (some 14) rfl rfl (by kernel_rfl) (by kernel_rfl) (by kernel_rfl) (fun _ _ _ h => h) (by rfl) (fun w hSw => by (try dsimp only at hSw); go_simp; try rfl) hHeld ?_
  go_frame
  refine takeH (i := 1) (some 15) rfl rfl (by kernel_rfl) (by kernel_rfl) (by kernel_rfl) (fun _ _ _ h => h) (by rfl) (fun w hSw => by (try dsimp only at hSw); go_simp; try rfl) hHeld ?_
  go_frame
  refine takeH (i := 2) (some 16) rfl rfl (by kernel_rfl) (by kernel_rfl) (by kernel_rfl) (fun _ _ _ h => h) (by rfl) (fun w hSw => by (try dsimp only at hSw); obtain ⟨s1, _, _⟩ := hSw; go_simp; try rfl) hHeld ?_
  go_frame
  refine takeH (i := 3) (some 17) rfl rfl (by kernel_rfl) (by kernel_rfl) (by kernel_rfl) (fun _ _ _ h => h) (by rfl) (fun w hSw => by (try dsimp only at hSw); go_simp; try rfl) hHeld ?_
  go_frame
  refine takeH (i := 4) (some 18) rfl rfl (by kernel_rfl) (by kernel_rfl) (by kernel_rfl) (fun _ _ _ h => h) (by rfl) (fun w hSw => by (try dsimp only at hSw); exact slo_l rfl rfl rfl rfl slc_ints (siz_ints _) h10 hk es) hHeld ?_
  go_frame
  refine takeH (i := 5) (some 5) rfl rfl (by kernel_rfl) (by kernel_rfl) (by kernel_rfl) (fun _ _ _ h => h) (by rfl) (fun w hSw => by (try dsimp only at hSw); go_simp; try rfl) hHeld ?_
  go_frame
  refine takeH (i := 6) (some 6) rfl rfl (by kernel_rfl) (by kernel_rfl) (by kernel_rfl) (fun _ _ _ h => h) (by rfl) (fun w hSw => by (try dsimp only at hSw); go_simp; try rfl) hHeld ?_
  go_frame
  refine wpAnyH_done (by kernel_rfl) ?_ _
  obtain ⟨_, hR, hw⟩ := hHeld
  clear d9 hR1 b1 es
  generalize W1.drew = V at *
  by_cases t1 : y < 0
  · go_wp2_with (first
      | (go_at_call 69; refine (unit_any _).mono ?_; rintro e W2 ⟨rfl, b2⟩; have hR2 := hR.keep b2)
      | (refine st_cell rfl rfl hR2 rfl rfl ?_; intro W3 hR3 C3))
    exact bodyPost_ret (results_c3 rfl _ _ _ 80 _ (0, 0) _ _ _ rfl rfl rfl hR3 Try.underlying80 rfl (info_cell _)) rfl ⟨rfl, ab_chg (ab_trans hw b2) C3 (Nat.le_refl _)⟩
  · have t1' : decide (y < 0) = false := decide_eq_false t1
    have t2 : (((n - 10 : Nat) : Int)) / 2 < y := by omega
    clear t1 hbad
    go_wp2_with (first
      | (go_at_call 69; refine (unit_any _).mono ?_; rintro e W2 ⟨rfl, b2⟩; have hR2 := hR.keep b2)
      | (refine st_cell rfl rfl hR2 rfl rfl ?_; intro W3 hR3 C3))
    exact bodyPost_ret (results_c3 rfl _ _ _ 80 _ (0, 0) _ _ _ rfl rfl rfl hR3 Try.underlying80 rfl (info_cell _)) rfl ⟨rfl, ab_chg (ab_trans hw b2) C3 (Nat.le_refl _)⟩

set_option maxRecDepth 100000 in
set_option maxHeartbeats 2000000 in
theorem take_no (g off n cap : Nat) (l : List Int) (ps : List PV) (more : List Int) (w : World) (hn : l.length = n) (hb : n ≤ 20000) (hk : n ≤ cap) (h10 : 10 ≤ n) (hg : g < w.heap.size) (hr : IRow w g off l) (hp : Parts l ps more) (hf : foldH ps = none) :
    Calls Try.prog 68 #[.slice (some ⟨g, off, none⟩) n cap] w fun e w' => e = .returned noTake ∧ Below w.heap.size w w' := by
  have h' : ¬ (n : Int) < 10 := by omega
  have c9 : w.cell? ⟨g, off + 9, none⟩ = some (.int .i64 (l.getD 9 0)) := hr 9 _ (by rw [List.getD_eq_getElem?_getD, List.getElem?_eq_getElem (by omega)]; rfl)
  obtain ⟨o', es, fs⟩ := sliced_some g off 10 n cap 1
  have h9n : (9 : Int) < (n : Int) := by omega
  have hrest := hp.rest
  have hlr := congrArg List.length hrest
  rw [List.length_drop, List.length_append, flatP_len, hn] at hlr
  rw [hp.nine] at c9
  have hps := irow_behind hr (o' := o') (fun c => by rw [fs (by omega)]) (by omega)
  rw [hrest] at hps
  have hpr : ∀ W, Below w.heap.size w W → IRow W g o' (flatP ps) := fun W hW => by
    have := irow_take (irow_keep2 hps hg hW) (flatP ps).length
    rwa [List.take_left] at this
  have hmr : ∀ W, Below w.heap.size w W → IRow W g (o' + 2 * ps.length) more := fun W hW => by
    have := irow_drop (irow_keep2 hps hg hW) (flatP ps).length
    rw [List.drop_left, flatP_len] at this
    exact this
  obtain ⟨m, hm⟩ : ∃ m, m = ps.length := ⟨_, rfl⟩
  have HM : Hid (ps.length = m) := hm.symm
  rw [← hm] at c9 hlr hmr
  have hmn : m ≤ (n - 10) / 2 := by omega
  clear hm hrest
  go_enter Try.func68, Try.ntmps68
  go_upto_region 3 with (refine al_cell rfl rfl ?_; intro W1 e1 hR1 b1; clear e1)
  have d9 := (b1.cell (p := ⟨g, off + 9, none⟩) hg).trans c9
  refine wp_region_held_drew (S := fun w' => w'.cell? ⟨g, off + 9, none⟩ = some (.int .i64 (m : Int)) ∧ Blk w' w.heap.size (CA zc) 80 ∧ Below w.heap.size w w') (by kernel_rfl) ⟨d9, hR1.drew, ab_drew b1⟩ (fun hHeld => ?_)
  refine takeH (i := 0) (some 14) rfl rfl (by kernel_rfl) (by kernel_rfl) (by kernel_rfl) (fun _ _ _ h => h) (by rfl) (fun w hSw => by (try dsimp only at hSw); go_simp; try rfl) hHeld ?_
  go_frame
  refine takeH (i := 1) (some 15) rfl rfl (by kernel_rfl) (by kernel_rfl) (by kernel_rfl) (fun _ _ _ h => h) (by rfl) (fun w hSw => by (try dsimp only at hSw); go_simp; try rfl) hHeld ?_
  go_frame
  refine takeH (i := 2) (some 16) rfl rfl (by kernel_rfl) (by kernel_rfl) (by kernel_rfl) (fun _ _ _ h => h) (by rfl) (fun w hSw => by (try dsimp only at hSw); obtain ⟨s1, _, _⟩ := hSw; go_simp; try rfl) hHeld ?_
  go_frame
  refine takeH (i := 3) (some 17) rfl rfl (by kernel_rfl) (by kernel_rfl) (by kernel_rfl) (fun _ _ _ h => h) (by rfl) (fun w hSw => by (try dsimp only at hSw); go_simp; try rfl) hHeld ?_
  go_frame
  refine takeH (i := 4) (some 18) rfl rfl (by kernel_rfl) (by kernel_rfl) (by kernel_rfl) (fun _ _ _ h => h) (by rfl) (fun w hSw => by (try dsimp only at hSw); exact slo_l rfl rfl rfl rfl slc_ints (siz_ints _) h10 hk es) hHeld ?_
  go_frame
  refine takeH (i := 5) (some 5) rfl rfl (by kernel_rfl) (by kernel_rfl) (by kernel_rfl) (fun _ _ _ h => h) (by rfl) (fun w hSw => by (try dsimp only at hSw); go_simp; try rfl) hHeld ?_
  go_frame
  refine takeH (i := 6) (some 6) rfl rfl (by kernel_rfl) (by kernel_rfl) (by kernel_rfl) (fun _ _ _ h => h) (by rfl) (fun w hSw => by (try dsimp only at hSw); go_simp; try rfl) hHeld ?_
  go_frame
  refine wpAnyH_done (by kernel_rfl) ?_ _
  obtain ⟨_, hR, hw⟩ := hHeld
  clear d9 hR1 b1 es
  generalize W1.drew = V at *
  have t2 : decide (((n - 10 : Nat) : Int) / 2 < (m : Int)) = false := decide_eq_false (by omega)
  have hm2 : 2 * m ≤ cap - 10 := by omega
  have hmi : 2 * (m : Int) ≤ 20000 := by omega
  have HF : Hid (foldH ps = none) := hf
  clear hf hmr
  go_wp2_with (first
    | (refine sl_h (h := 2 * m) rfl rfl rfl rfl slc_ints (siz_ints _) hm2 ?_)
    | (go_at_call 70; refine (histof_no (some ⟨g, o', none⟩) g o' (2 * m) (cap - 10) ps _ HF.out (by rw [HM.out]) (by omega) (fun _ => rfl) (fun _ => Nat.lt_of_lt_of_le hg hw.size) (hpr _ hw)).mono ?_; rintro e W2 ⟨rfl, b2⟩; have hR2 := hR.keep b2; have hw2 := ab_trans hw b2)
    | (refine al_hist rfl rfl ?_; intro W3 e3 hX3 b3; clear e3; have hR3 := hR2.keep b3; have hw3 := ab_trans hw2 b3)
    | (refine st_hist rfl rfl hX3 rfl rfl ?_; intro W4 hX4 C4; have hR4 := hR3.chg C4 (by have := hR2.lt; omega); have hw4 := ab_chg hw3 C4 hw2.size)
    | (go_at_call 69; refine (unit_any _).mono ?_; rintro e W5 ⟨rfl, b5⟩; have hR5 := hR4.keep b5)
    | (refine st_cell rfl rfl hR5 rfl rfl ?_; intro W6 hR6 C6))
  exact bodyPost_ret (results_c3 rfl _ _ _ 80 _ (0, 0) _ _ _ rfl rfl rfl hR6 Try.underlying80 rfl (info_cell _)) rfl ⟨rfl, ab_chg (ab_trans hw4 b5) C6 (Nat.le_refl _)⟩

theorem ldh_oper {o : Oper} {ρ : Operand → Value} {x : Operand} {b : Nat} {c : Nat → Int} {t : TypeId} {w : World} (ho : o.op = .load 78 x) (hx : ρ x = .pointer (some ⟨b, 0, none⟩)) (hB : Blk w b (HA c) t) :
    (execOp ρ o).run Try.prog w = .ok (.value (.agg (HA c))) w := by
  unfold execOp
  simp only [ho, hx, Instr.loadAt, Instr.sureAddr, Sem.run_bind, Sem.run_pure, Result.andThen_ok, run_loadVar_row w b t 78 (HA c) (0, 0) _ hB Try.underlying78 rfl (info_hist c)]
def takeC (x0 x1 x2 x3 x4 x5 x6 x7 x8 : Int) (h : Nat → Int) : Nat → Int := fun i => if i = 0 then x0 else if i = 1 then x1 else if i = 2 then x2 else if i = 3 then x3 else if i = 4 then x4 else if i = 5 then x5 else if i = 6 then x6 else if i = 7 then x7 else if i = 8 then x8 else h (i - 9)
theorem built_take (x0 x1 x2 x3 x4 x5 x6 x7 x8 : Int) (h : Nat → Int) : Try.prog.built 80 [(0, .int .i64 x0), (1, .agg #[.int .i64 x1, .int .u64 x2]), (2, .int .i64 x3), (3, .int .i64 x4), (4, .agg #[.int .i64 x5, .int .i64 x6, .int .i64 x7, .int .i64 x8]), (5, .agg (HA h))] =
    some (CA (takeC x0 x1 x2 x3 x4 x5 x6 x7 x8 h)) := by kernel_rfl
theorem own_chg2 {W W' : World} {base e size n b : Nat} {v : Value} {xs : List Value} {us : Array Value} {u : TypeId} (h : W.ownsRow base e size v n xs) (hB : Blk W b us u) (hc : Chg b W W') (hn : e ≠ u) : W'.ownsRow base e size v n xs := by
  refine ⟨h.1, ?_⟩
  rcases h.2 with h2 | ⟨g', cap', cur, e1, hb, hg, h4⟩
  · exact .inl h2
  · refine .inr ⟨g', cap', cur, e1, hb, Blk.chg hg hc ?_, h4⟩
    rintro rfl
    have f : W.heap[g']? = _ := hB
    rw [hg] at f
    cases f
    exact hn rfl
theorem i64_in (m : Nat) (h : m ≤ 9223372036854775807) : IntKind.i64.wrap (m : Int) = (m : Int) := by simp [IntKind.wrap, IntKind.signed, IntKind.bits]; omega
theorem u64_uw (x : Int) : IntKind.u64.wrap x = uw x := by simp [IntKind.wrap, IntKind.signed, IntKind.bits, uw]
theorem takeC_cell (l : List Int) (h : Nat → Int) : Eqv (takeC (l.getD 0 0) (l.getD 1 0) (IntKind.u64.wrap (l.getD 2 0)) (l.getD 3 0) (l.getD 4 0) (l.getD 5 0) (l.getD 6 0) (l.getD 7 0) (l.getD 8 0) h) (cellOf l h) := by
  intro i hi
  rw [u64_uw]
  unfold takeC cellOf
  match i with
  | 0 | 1 | 2 | 3 | 4 | 5 | 6 | 7 | 8 => rfl
  | n + 9 => rw [if_neg (by omega), if_neg (by omega), if_neg (by omega), if_neg (by omega), if_neg (by omega), if_neg (by omega), if_neg (by omega), if_neg (by omega), if_neg (by omega), if_neg (by omega)]

set_option maxRecDepth 100000 in
set_option maxHeartbeats 2000000 in
theorem take_yes (g off n cap : Nat) (l : List Int) (ps : List PV) (more : List Int) (nx : Nat) (h : Nat → Int) (w : World) (hn : l.length = n) (hb : n ≤ 20000) (hk : n ≤ cap) (h10 : 10 ≤ n) (hg : g < w.heap.size) (hr : IRow w g off l) (hp : Parts l ps more) (hf : foldH ps = some (nx, h)) :
    Calls Try.prog 68 #[.slice (some ⟨g, off, none⟩) n cap] w fun e w' => ∃ v, e = .returned (.tuple #[.agg (CA (cellOf l h)), v, .bool true]) ∧ w'.ownsRow w.heap.size 3 1 v more.length (ints more) ∧ Below w.heap.size w w' := by
  have HC : Hid (CA (takeC (l.getD 0 0) (l.getD 1 0) (IntKind.u64.wrap (l.getD 2 0)) (l.getD 3 0) (l.getD 4 0) (l.getD 5 0) (l.getD 6 0) (l.getD 7 0) (l.getD 8 0) h) = CA (cellOf l h)) := CA_congr (takeC_cell l h)
  have cl : ∀ i, i < 10 → ∀ W, Below w.heap.size w W → W.cell? ⟨g, off + i, none⟩ = some (.int .i64 (l.getD i 0)) := fun i hi W hW => (hW.cell (p := ⟨g, off + i, none⟩) hg).trans (hr i _ (by rw [List.getD_eq_getElem?_getD, List.getElem?_eq_getElem (by omega)]; rfl))
  have h' : ¬ (n : Int) < 10 := by omega
  have c9 : w.cell? ⟨g, off + 9, none⟩ = some (.int .i64 (l.getD 9 0)) := hr 9 _ (by rw [List.getD_eq_getElem?_getD, List.getElem?_eq_getElem (by omega)]; rfl)
  obtain ⟨o', es, fs⟩ := sliced_some g off 10 n cap 1
  have h9n : (9 : Int) < (n : Int) := by omega
  have hrest := hp.rest
  have hlr := congrArg List.length hrest
  rw [List.length_drop, List.length_append, flatP_len, hn] at hlr
  rw [hp.nine] at c9
  have hps := irow_behind hr (o' := o') (fun c => by rw [fs (by omega)]) (by omega)
  rw [hrest] at hps
  have hpr : ∀ W, Below w.heap.size w W → IRow W g o' (flatP ps) := fun W hW => by
    have := irow_take (irow_keep2 hps hg hW) (flatP ps).length
    rwa [List.take_left] at this
  have hmr : ∀ W, Below w.heap.size w W → IRow W g (o' + 2 * ps.length) more := fun W hW => by
    have := irow_drop (irow_keep2 hps hg hW) (flatP ps).length
    rw [List.drop_left, flatP_len] at this
    exact this
  obtain ⟨m, hm⟩ : ∃ m, m = ps.length := ⟨_, rfl⟩
  have HM : Hid (ps.length = m) := hm.symm
  rw [← hm] at c9 hlr hmr
  have hmn : m ≤ (n - 10) / 2 := by omega
  clear hm hrest
  have L0 := cl 0 (by omega)
  rw [Nat.add_zero] at L0
  have L1 := cl 1 (by omega)
  have L2 := cl 2 (by omega)
  have L3 := cl 3 (by omega)
  have L4 := cl 4 (by omega)
  have L5 := cl 5 (by omega)
  have L6 := cl 6 (by omega)
  have L7 := cl 7 (by omega)
  have L8 := cl 8 (by omega)
  clear cl
  generalize l.getD 0 0 = y0 at *
  generalize l.getD 1 0 = y1 at *
  generalize l.getD 2 0 = y2 at *
  generalize l.getD 3 0 = y3 at *
  generalize l.getD 4 0 = y4 at *
  generalize l.getD 5 0 = y5 at *
  generalize l.getD 6 0 = y6 at *
  generalize l.getD 7 0 = y7 at *
  generalize l.getD 8 0 = y8 at *
  go_enter Try.func68, Try.ntmps68
  go_upto_region 3 with (refine al_cell rfl rfl ?_; intro W1 e1 hR1 b1; clear e1)
  have d9 := (b1.cell (p := ⟨g, off + 9, none⟩) hg).trans c9
  refine wp_region_held_drew (S := fun w' => w'.cell? ⟨g, off + 9, none⟩ = some (.int .i64 (m : Int)) ∧ Blk w' w.heap.size (CA zc) 80 ∧ Below w.heap.size w w') (by kernel_rfl) ⟨d9, hR1.drew, ab_drew b1⟩ (fun hHeld => ?_)
  refine takeH (i := 0) (some 14) rfl rfl (by kernel_rfl) (by kernel_rfl) (by kernel_rfl) (fun _ _ _ h => h) (by rfl) (fun w hSw => by (try dsimp only at hSw); go_simp; try rfl) hHeld ?_
  go_frame
  refine takeH (i := 1) (some 15) rfl rfl (by kernel_rfl) (by kernel_rfl) (by kernel_rfl) (fun _ _ _ h => h) (by rfl) (fun w hSw => by (try dsimp only at hSw); go_simp; try rfl) hHeld ?_
  go_frame
  refine takeH (i := 2) (some 16) rfl rfl (by kernel_rfl) (by kernel_rfl) (by kernel_rfl) (fun _ _ _ h => h) (by rfl) (fun w hSw => by (try dsimp only at hSw); obtain ⟨s1, _, _⟩ := hSw; go_simp; try rfl) hHeld ?_
  go_frame
  refine takeH (i := 3) (some 17) rfl rfl (by kernel_rfl) (by kernel_rfl) (by kernel_rfl) (fun _ _ _ h => h) (by rfl) (fun w hSw => by (try dsimp only at hSw); go_simp; try rfl) hHeld ?_
  go_frame
  refine takeH (i := 4) (some 18) rfl rfl (by kernel_rfl) (by kernel_rfl) (by kernel_rfl) (fun _ _ _ h => h) (by rfl) (fun w hSw => by (try dsimp only at hSw); exact slo_l rfl rfl rfl rfl slc_ints (siz_ints _) h10 hk es) hHeld ?_
  go_frame
  refine takeH (i := 5) (some 5) rfl rfl (by kernel_rfl) (by kernel_rfl) (by kernel_rfl) (fun _ _ _ h => h) (by rfl) (fun w hSw => by (try dsimp only at hSw); go_simp; try rfl) hHeld ?_
  go_frame
  refine takeH (i := 6) (some 6) rfl rfl (by kernel_rfl) (by kernel_rfl) (by kernel_rfl) (fun _ _ _ h => h) (by rfl) (fun w hSw => by (try dsimp only at hSw); go_simp; try rfl) hHeld ?_
  go_frame
  refine wpAnyH_done (by kernel_rfl) ?_ _
  obtain ⟨_, hR, hw⟩ := hHeld
  clear d9 hR1 b1 es
  generalize W1.drew = V at *
  have t2 : decide (((n - 10 : Nat) : Int) / 2 < (m : Int)) = false := decide_eq_false (by omega)
  have hm2 : 2 * m ≤ cap - 10 := by omega
  have hmi : 2 * (m : Int) ≤ 20000 := by omega
  have HF : Hid (foldH ps = some (nx, h)) := hf
  clear hf
  go_upto_region 9 with (first
    | (refine sl_h (h := 2 * m) rfl rfl rfl rfl slc_ints (siz_ints _) hm2 ?_)
    | (go_at_call 70; refine (histof_yes (some ⟨g, o', none⟩) g o' (2 * m) (cap - 10) ps nx h _ HF.out (by rw [HM.out]) (by omega) (fun _ => rfl) (fun _ => Nat.lt_of_lt_of_le hg hw.size) (hpr _ hw)).mono ?_; rintro e W2 ⟨rfl, b2⟩; have hR2 := hR.keep b2; have hw2 := ab_trans hw b2)
    | (refine al_hist rfl rfl ?_; intro W3 e3 hX3 b3; clear e3; have hR3 := hR2.keep b3; have hw3 := ab_trans hw2 b3)
    | (refine st_hist rfl rfl hX3 rfl rfl ?_; intro W4 hX4 C4; have hR4 := hR3.chg C4 (by have := hR2.lt; omega); have hw4 := ab_chg hw3 C4 hw2.size))
  have hj0 : 0 < n := by omega
  have hj1 : (1 : Int) < (n : Int) := by omega
  have hj2 : (2 : Int) < (n : Int) := by omega
  have hj3 : (3 : Int) < (n : Int) := by omega
  have hj4 : (4 : Int) < (n : Int) := by omega
  have hj5 : (5 : Int) < (n : Int) := by omega
  have hj6 : (6 : Int) < (n : Int) := by omega
  have hj7 : (7 : Int) < (n : Int) := by omega
  have hj8 : (8 : Int) < (n : Int) := by omega
  have hRX : w.heap.size < W2.heap.size := hR2.lt
  clear hR hR2 hR3 hX3 hw hw2 hw3 b2 b3 C4 HF
  generalize W2.heap.size = X at *
  refine wp_region_held_drew (S := fun w' => Blk w' X (HA h) 78 ∧ Blk w' w.heap.size (CA zc) 80 ∧ Below w.heap.size w w') (by kernel_rfl) ⟨hX4.drew, hR4.drew, ab_drew hw4⟩ (fun hHeld => ?_)
  refine takeH (i := 0) (some 40) rfl rfl (by kernel_rfl) (by kernel_rfl) (by kernel_rfl) (fun _ _ _ h => h) (by rfl) (fun w hSw => by (try dsimp only at hSw); go_simp; try rfl) hHeld ?_
  go_frame
  refine takeH (i := 1) (some 41) rfl rfl (by kernel_rfl) (by kernel_rfl) (by kernel_rfl) (fun _ _ _ h => h) (by rfl) (fun w hSw => by (try dsimp only at hSw); go_simp; try rfl) hHeld ?_
  go_frame
  refine takeH (i := 2) (some 42) rfl rfl (by kernel_rfl) (by kernel_rfl) (by kernel_rfl) (fun _ _ _ h => h) (by rfl) (fun w hSw => by (try dsimp only at hSw); have s1 := L0 _ hSw.2.2; go_simp; try rfl) hHeld ?_
  go_frame
  refine takeH (i := 3) (some 43) rfl rfl (by kernel_rfl) (by kernel_rfl) (by kernel_rfl) (fun _ _ _ h => h) (by rfl) (fun w hSw => by (try dsimp only at hSw); go_simp; try rfl) hHeld ?_
  go_frame
  refine takeH (i := 4) (some 44) rfl rfl (by kernel_rfl) (by kernel_rfl) (by kernel_rfl) (fun _ _ _ h => h) (by rfl) (fun w hSw => by (try dsimp only at hSw); go_simp; try rfl) hHeld ?_
  go_frame
  refine takeH (i := 5) (some 45) rfl rfl (by kernel_rfl) (by kernel_rfl) (by kernel_rfl) (fun _ _ _ h => h) (by rfl) (fun w hSw => by (try dsimp only at hSw); have s1 := L1 _ hSw.2.2; go_simp; try rfl) hHeld ?_
  go_frame
  refine takeH (i := 6) (some 46) rfl rfl (by kernel_rfl) (by kernel_rfl) (by kernel_rfl) (fun _ _ _ h => h) (by rfl) (fun w hSw => by (try dsimp only at hSw); go_simp; try rfl) hHeld ?_
  go_frame
  refine takeH (i := 7) (some 47) rfl rfl (by kernel_rfl) (by kernel_rfl) (by kernel_rfl) (fun _ _ _ h => h) (by rfl) (fun w hSw => by (try dsimp only at hSw); go_simp; try rfl) hHeld ?_
  go_frame
  refine takeH (i := 8) (some 48) rfl rfl (by kernel_rfl) (by kernel_rfl) (by kernel_rfl) (fun _ _ _ h => h) (by rfl) (fun w hSw => by (try dsimp only at hSw); have s1 := L2 _ hSw.2.2; go_simp; try rfl) hHeld ?_
  go_frame
  refine takeH (i := 9) (some 49) rfl rfl (by kernel_rfl) (by kernel_rfl) (by kernel_rfl) (fun _ _ _ h => h) (by rfl) (fun w hSw => by (try dsimp only at hSw); go_simp; try rfl) hHeld ?_
  go_frame
  refine takeH (i := 10) (some 50) rfl rfl (by kernel_rfl) (by kernel_rfl) (by kernel_rfl) (fun _ _ _ h => h) (by rfl) (fun w hSw => by (try dsimp only at hSw); go_simp; try rfl) hHeld ?_
  go_frame
  refine takeH (i := 11) (some 51) rfl rfl (by kernel_rfl) (by kernel_rfl) (by kernel_rfl) (fun _ _ _ h => h) (by rfl) (fun w hSw => by (try dsimp only at hSw); go_simp; try rfl) hHeld ?_
  go_frame
  refine takeH (i := 12) (some 52) rfl rfl (by kernel_rfl) (by kernel_rfl) (by kernel_rfl) (fun _ _ _ h => h) (by rfl) (fun w hSw => by (try dsimp only at hSw); go_simp; try rfl) hHeld ?_
  go_frame
  refine takeH (i := 13) (some 53) rfl rfl (by kernel_rfl) (by kernel_rfl) (by kernel_rfl) (fun _ _ _ h => h) (by rfl) (fun w hSw => by (try dsimp only at hSw); have s1 := L3 _ hSw.2.2; go_simp; try rfl) hHeld ?_
  go_frame
  refine takeH (i := 14) (some 54) rfl rfl (by kernel_rfl) (by kernel_rfl) (by kernel_rfl) (fun _ _ _ h => h) (by rfl) (fun w hSw => by (try dsimp only at hSw); go_simp; try rfl) hHeld ?_
  go_frame
  refine takeH (i := 15) (some 55) rfl rfl (by kernel_rfl) (by kernel_rfl) (by kernel_rfl) (fun _ _ _ h => h) (by rfl) (fun w hSw => by (try dsimp only at hSw); go_simp; try rfl) hHeld ?_
  go_frame
  refine takeH (i := 16) (some 56) rfl rfl (by kernel_rfl) (by kernel_rfl) (by kernel_rfl) (fun _ _ _ h => h) (by rfl) (fun w hSw => by (try dsimp only at hSw); have s1 := L4 _ hSw.2.2; go_simp; try rfl) hHeld ?_
  go_frame
  refine takeH (i := 17) (some 57) rfl rfl (by kernel_rfl) (by kernel_rfl) (by kernel_rfl) (fun _ _ _ h => h) (by rfl) (fun w hSw => by (try dsimp only at hSw); go_simp; try rfl) hHeld ?_
  go_frame
  refine takeH (i := 18) (some 58) rfl rfl (by kernel_rfl) (by kernel_rfl) (by kernel_rfl) (fun _ _ _ h => h) (by rfl) (fun w hSw => by (try dsimp only at hSw); go_simp; try rfl) hHeld ?_
  go_frame
  refine takeH (i := 19) (some 59) rfl rfl (by kernel_rfl) (by kernel_rfl) (by kernel_rfl) (fun _ _ _ h => h) (by rfl) (fun w hSw => by (try dsimp only at hSw); have s1 := L5 _ hSw.2.2; go_simp; try rfl) hHeld ?_
  go_frame
  refine takeH (i := 20) (some 60) rfl rfl (by kernel_rfl) (by kernel_rfl) (by kernel_rfl) (fun _ _ _ h => h) (by rfl) (fun w hSw => by (try dsimp only at hSw); go_simp; try rfl) hHeld ?_
  go_frame
  refine takeH (i := 21) (some 61) rfl rfl (by kernel_rfl) (by kernel_rfl) (by kernel_rfl) (fun _ _ _ h => h) (by rfl) (fun w hSw => by (try dsimp only at hSw); go_simp; try rfl) hHeld ?_
  go_frame
  refine takeH (i := 22) (some 62) rfl rfl (by kernel_rfl) (by kernel_rfl) (by kernel_rfl) (fun _ _ _ h => h) (by rfl) (fun w hSw => by (try dsimp only at hSw); have s1 := L6 _ hSw.2.2; go_simp; try rfl) hHeld ?_
  go_frame
  refine takeH (i := 23) (some 63) rfl rfl (by kernel_rfl) (by kernel_rfl) (by kernel_rfl) (fun _ _ _ h => h) (by rfl) (fun w hSw => by (try dsimp only at hSw); go_simp; try rfl) hHeld ?_
  go_frame
  refine takeH (i := 24) (some 64) rfl rfl (by kernel_rfl) (by kernel_rfl) (by kernel_rfl) (fun _ _ _ h => h) (by rfl) (fun w hSw => by (try dsimp only at hSw); go_simp; try rfl) hHeld ?_
  go_frame
  refine takeH (i := 25) (some 65) rfl rfl (by kernel_rfl) (by kernel_rfl) (by kernel_rfl) (fun _ _ _ h => h) (by rfl) (fun w hSw => by (try dsimp only at hSw); have s1 := L7 _ hSw.2.2; go_simp; try rfl) hHeld ?_
  go_frame
  refine takeH (i := 26) (some 66) rfl rfl (by kernel_rfl) (by kernel_rfl) (by kernel_rfl) (fun _ _ _ h => h) (by rfl) (fun w hSw => by (try dsimp only at hSw); go_simp; try rfl) hHeld ?_
  go_frame
  refine takeH (i := 27) (some 67) rfl rfl (by kernel_rfl) (by kernel_rfl) (by kernel_rfl) (fun _ _ _ h => h) (by rfl) (fun w hSw => by (try dsimp only at hSw); go_simp; try rfl) hHeld ?_
  go_frame
  refine takeH (i := 28) (some 68) rfl rfl (by kernel_rfl) (by kernel_rfl) (by kernel_rfl) (fun _ _ _ h => h) (by rfl) (fun w hSw => by (try dsimp only at hSw); have s1 := L8 _ hSw.2.2; go_simp; try rfl) hHeld ?_
  go_frame
  refine takeH (i := 29) (some 69) rfl rfl (by kernel_rfl) (by kernel_rfl) (by kernel_rfl) (fun _ _ _ h => h) (by rfl) (fun w hSw => by (try dsimp only at hSw); go_simp; try rfl) hHeld ?_
  go_frame
  refine takeH (i := 30) (some 70) rfl rfl (by kernel_rfl) (by kernel_rfl) (by kernel_rfl) (fun _ _ _ h => h) (by rfl) (fun w hSw => by (try dsimp only at hSw); exact ldh_oper rfl rfl hSw.1) hHeld ?_
  go_frame
  refine takeH (i := 31) (some 71) rfl rfl (by kernel_rfl) (by kernel_rfl) (by kernel_rfl) (fun _ _ _ h => h) (by rfl) (fun w hSw => by (try dsimp only at hSw); exact bd_run rfl (built_take y0 y1 (IntKind.u64.wrap y2) y3 y4 y5 y6 y7 y8 h) (by simp only [List.map_toArray, List.map_cons, List.map_nil]; rfl) w) hHeld ?_
  go_frame
  refine wpAnyH_ready (rs := [32]) (by kernel_rfl) (by simp) (AllReadyH.cons rfl (fun K hK => ?_) AllReadyH.nil)
  rw [if_pos (by rfl)]
  refine alW (some 9) rfl rfl (CA zc) (zero_cell _) fun W5 hY5 b5 => ?_
  have hRl := hHeld.2.1.lt
  have hXl0 := hHeld.1.lt
  refine hK.out _ _ ⟨hHeld.1.keep b5, hHeld.2.1.keep b5, ab_trans hHeld.2.2 b5⟩ (fun hHeld => ?_)
  clear hK K b5
  go_frame
  refine wpAnyH_ready (rs := [33]) (by kernel_rfl) (by simp) (AllReadyH.cons rfl (fun K hK => ?_) AllReadyH.nil)
  rw [if_pos (by rfl)]
  refine stW none rfl rfl hY5 rfl rfl (info_cell _) (by rw [CA_size, CA_size]) (CA_one _) fun W6 hY6 C6 => ?_
  refine hK.out _ _ ⟨hHeld.1.chg C6 (by omega), hHeld.2.1.chg C6 (by omega), ab_chg hHeld.2.2 C6 (by omega)⟩ (fun hHeld => ?_)
  clear hK K C6 hY5
  refine wpAnyH_done (by kernel_rfl) ?_ _
  go_frame
  rw [HC.out] at hY6
  obtain ⟨_, hR6, hw6⟩ := hHeld
  clear hX4 hR4 hw4 HC L0 L1 L2 L3 L4 L5 L6 L7 L8 hj0 hj1 hj2 hj3 hj4 hj5 hj6 hj7 hj8
  obtain ⟨Y, hY⟩ : ∃ Y, Y = W4.drew.heap.size := ⟨_, rfl⟩
  rw [← hY] at hY6 hRl hXl0 ⊢
  clear hY
  obtain ⟨o2, es2, fs2⟩ := sliced_some g o' (2 * m) (2 * m + more.length) (cap - 10) 1
  go_upto_region 10 with fail
  refine wp_region_held_drew (S := fun w' => Blk w' Y (CA (cellOf l h)) 80 ∧ Below w.heap.size w w') (by kernel_rfl) ⟨hY6.drew, ab_drew hw6⟩ (fun hHeld => ?_)
  have hR := hR6.drew
  refine takeH (i := 0) (some 72) rfl rfl (by kernel_rfl) (by kernel_rfl) (by kernel_rfl) (fun _ _ _ h => h) (by rfl) (fun w hSw => by (try dsimp only at hSw); exact ld_oper rfl rfl hSw.1) hHeld ?_
  go_frame
  refine takeH (i := 1) (some 73) rfl rfl (by kernel_rfl) (by kernel_rfl) (by kernel_rfl) (fun _ _ _ h => h) (by rfl) (fun w hSw => by (try dsimp only at hSw); go_simp; try rfl) hHeld ?_
  go_frame
  refine takeH (i := 2) (some 74) rfl rfl (by kernel_rfl) (by kernel_rfl) (by kernel_rfl) (fun _ _ _ h => h) (by rfl) (fun w hSw => by (try dsimp only at hSw); go_simp; try rfl) hHeld ?_
  go_frame
  refine takeH (i := 3) (some 75) rfl rfl (by kernel_rfl) (by kernel_rfl) (by kernel_rfl) (fun _ _ _ h => h) (by rfl) (fun w hSw => by (try dsimp only at hSw); go_simp; try rfl) hHeld ?_
  go_frame
  refine takeH (i := 4) (some 76) rfl rfl (by kernel_rfl) (by kernel_rfl) (by kernel_rfl) (fun _ _ _ h => h) (by rfl) (fun w hSw => by (try dsimp only at hSw); exact slo_l rfl rfl rfl (i64_in (2 * m) (by omega)) slc_ints (siz_ints _) (by omega) (by omega) es2) hHeld ?_
  go_frame
  refine wpAnyH_ready (rs := [5]) (by kernel_rfl) (by simp) (AllReadyH.cons rfl (fun K hK => ?_) AllReadyH.nil)
  rw [if_pos (by rfl)]
  refine appW (v := .slice none 0 0) (n := 0) (xs := []) w (some 77) rfl rfl Try.underlying22 infoInt rfl (by decide) rfl (World.ownsRow_nil _ _ _ _) (ints more) rfl ?c1 ?c2 ?c3 ?c4 ?c5 ?c6 hHeld.2 ?_
  case c1 => intro e; cases e
  case c2 => simp [ints]
  case c3 =>
    intro ad had j u hu
    cases had
    have hj : j < more.length := by have := (List.getElem?_eq_some_iff.1 hu).1; rwa [ints_len] at this
    rw [ints_at, List.getElem?_eq_getElem hj] at hu
    cases hu
    rw [Addr.add_mid, fs2 (by omega), Nat.mul_one]
    exact hmr _ hHeld.2 j _ (List.getElem?_eq_getElem hj)
  case c4 => exact ints_one _
  case c5 => unfold maxLen; omega
  case c6 => omega
  intro v' W7 hown' _ b7 hgrow
  have hY7 : Blk W7 Y (CA (cellOf l h)) 80 := by unfold Blk; rw [hgrow.block _ hHeld.1.lt (by intro e; cases e)]; exact hHeld.1
  have hR7 : Blk W7 w.heap.size (CA zc) 80 := by unfold Blk; rw [hgrow.block _ hR.lt (by intro e; cases e)]; exact hR
  refine hK.out _ _ ⟨hY7, b7⟩ (fun hHeld => ?_)
  clear hK K hgrow
  go_frame
  refine wpAnyH_ready (rs := [6]) (by kernel_rfl) (by simp) (AllReadyH.cons rfl (fun K hK => ?_) AllReadyH.nil)
  rw [if_pos (by rfl)]
  refine stW none rfl rfl hR7 rfl rfl (info_cell _) (by rw [CA_size, CA_size]) (CA_one _) fun W8 hR8 C8 => ?_
  have hY8 := hHeld.1.chg C8 (by omega)
  have hw8 := ab_chg hHeld.2 C8 (by omega)
  have hown8 := own_chg2 hown' hR7 C8 (by decide)
  refine hK.out _ _ ⟨hY8, hw8⟩ (fun hHeld => ?_)
  clear hK K
  go_frame
  refine takeH (i := 7) (some 3) rfl rfl (by kernel_rfl) (by kernel_rfl) (by kernel_rfl) (fun _ _ _ h => h) (by rfl) (fun w hSw => by (try dsimp only at hSw); go_simp; try rfl) hHeld ?_
  go_frame
  refine takeH (i := 8) (some 4) rfl rfl (by kernel_rfl) (by kernel_rfl) (by kernel_rfl) (fun _ _ _ h => h) (by rfl) (fun w hSw => by (try dsimp only at hSw); go_simp; try rfl) hHeld ?_
  go_frame
  refine wpAnyH_done (by kernel_rfl) ?_ _
  go_wp2_with fail
  rw [List.nil_append, Nat.zero_add, Nat.add_sub_cancel_left] at hown8
  exact bodyPost_ret (results_c3 rfl _ _ _ 80 _ (0, 0) _ _ _ rfl rfl rfl hR8 Try.underlying80 rfl (info_cell _)) rfl ⟨_, rfl, hown8, hw8⟩
end Go.Proofs.Ytjbhicjnnghjjaa
namespace Go.Proofs.Ytjbhicjnnghjjaa
open Go.RowKit
set_option linter.unusedVariables false

theorem pp_two (h : Nat → Int) (k : Nat) : flatP (pp h (k + 1)) = if h k = 0 then flatP (pp h k) else flatP (pp h k) ++ [(k : Int), h k] := by
  simp only [pp]; split
  · rfl
  · rw [flatP_snoc]
set_option maxHeartbeats 1000000 in
theorem rnums_any (c : Nat → Int) (w : World) (hc : Wf c) :
    Calls Try.prog 56 #[.agg (CA c)] w fun e w' => ∃ v, e = .returned v ∧ w'.ownsRow w.heap.size 3 1 v (numsF c).length (ints (numsF c)) ∧ v ≠ .slice none 0 0 ∧ Below w.heap.size w w' := by
  go_enter Try.func56, Try.ntmps56
  go_wp2_with fail
  have hA0 := Blk.new w (CA c) 80
  have hwA : Below w.heap.size w (w.alloc (.cells (CA c) 80)) := ab_alloc (Below.refl _ _) _
  have hzA : Hid (w.heap.size ≤ (w.alloc (.cells (CA c) 80)).heap.size) := by show _ ≤ _; simp
  generalize w.alloc (.cells (CA c) 80) = A at *
  go_loopw [3, 4] (fun v i wr => ∃ k : Nat, k ≤ 65 ∧ i = .int .i64 (k : Int) ∧ wr.ownsRow A.heap.size 3 1 v (flatP (pp (hf c) k)).length (ints (flatP (pp (hf c) k))) ∧ Below A.heap.size A wr) (fun _ i _ => 65 - (intOf i).toNat)
  case atStart => exact ⟨0, by omega, rfl, World.ownsRow_nil _ _ _ _, Below.refl _ _⟩
  case round =>
    obtain ⟨k, hk, rfl, hown, hw⟩ := hrel
    have hX := hA0.keep hw
    by_cases ck : k = 65
    · subst ck
      obtain ⟨z0, z1, z2, z3, z4, z5, z6, z7, z8⟩ := hX.nine
      have hlen := flatP_len (pp (hf c) 65)
      have hpl := pp_len (hf c) 65
      have b2 := hc.1
      have HF : Hid (numsF c = hdF c ((pp (hf c) 65).length : Int) ++ flatP (pp (hf c) 65)) := rfl
      obtain ⟨_, q, g, cap, rfl, hp, hg, hq, hnc, hir⟩ := own_irow hown
      generalize flatP (pp (hf c) 65) = P at *
      generalize hm : (pp (hf c) 65).length = m at *
      clear hm
      have hm2 : ((P.length : Nat) : Int) / 2 = (m : Int) := by omega
      have hPi : (P.length : Int) ≤ 130 := by omega
      have hPl : P.length ≤ 130 := by omega
      clear hc hlen hpl
      go_wp2_with (first
        | (refine bs_own rfl rfl (hdF c (m : Int)) (by simp only [List.map_toArray, List.map_cons, List.map_nil]; rfl) (isl10 _ _ _ _ _ _ _ _ _ _ _) rfl (by decide) ?_; intro V1 hN b1 z1; have hw1 := ab_trans hw b1; have hN1 := own_less hN hw.size; have hir1 := irow_keep hir (by simpa [*] using hg) b1)
        | (at_builtin; refine app_own A rfl rfl Try.underlying22 infoInt rfl (by decide) rfl hN1 (ints P) rfl ?c1 ?c2 ?c3 ?c4 ?c5 ?c6 hw1 ?_))
      case c1 => exact fun e => List.eq_nil_of_length_eq_zero (hq e)
      case c2 => simp [ints]
      case c3 =>
        intro ad had j u hu
        have hj : j < P.length := by have := (List.getElem?_eq_some_iff.1 hu).1; rwa [ints_len] at this
        rw [hp (by omega)] at had
        cases had
        rw [ints_at, List.getElem?_eq_getElem hj] at hu
        cases hu
        rw [Addr.add_mid]
        exact hir1 j _ (List.getElem?_eq_getElem hj)
      case c4 => exact ints_one _
      case c5 => unfold maxLen; omega
      case c6 => omega
      intro v' V2 hown' hnil b2 _
      have hv : v' ≠ .slice none 0 0 := by first | exact hnil | (intro e; have := (hnil.1 e).1; cases this)
      rw [ints_append, ← HF.out] at hown'
      have hown2 := own_less hown' (base' := w.heap.size) hzA.out
      have hl2 : (numsF c).length = 10 + P.length := by rw [HF.out]; simp [hdF]; omega
      rw [← hl2] at hown2
      go_wp2_with fail
      go_ret
      exact ⟨_, rfl, hown2, hv, hwA.trans (b2.mono hwA.size)⟩
    · have hki : (k : Int) < 65 := by omega
      have cX := hX.at (CA_at64 c (9 + k) (by omega) (by omega))
      have HP := pp_two (hf c) k
      have hlen := flatP_len (pp (hf c) k)
      have hpl := pp_len (hf c) k
      by_cases z : c (9 + k) = 0
      · rw [z] at cX
        have HN : Hid (flatP (pp (hf c) (k + 1)) = flatP (pp (hf c) k)) := by show _ = _; rw [HP, if_pos (show hf c k = 0 from z)]
        clear HP hlen hpl
        go_wp2_with fail
        go_roundw
        case rel => exact ⟨k + 1, by omega, by go_num, by rw [HN.out]; exact hown, hw⟩
        case measure => simp [intOf]; omega
      · have HN : Hid (flatP (pp (hf c) (k + 1)) = flatP (pp (hf c) k) ++ [(k : Int), c (9 + k)]) := by show _ = _; rw [HP, if_neg (show ¬ hf c k = 0 from z)]; rfl
        have zb : (c (9 + k) != 0) = true := by simpa using z
        clear HP
        generalize c (9 + k) = y at *
        generalize flatP (pp (hf c) k) = P at *
        generalize (pp (hf c) k).length = m at *
        have hPl : P.length ≤ 130 := by omega
        clear hlen hpl
        go_wp2_with (first
          | (refine bs_own rfl rfl [(k : Int), y] (by simp only [List.map_toArray, List.map_cons, List.map_nil]; rfl) (isl2 _ _ _) rfl (by decide) ?_; intro V1 hN b1 z1; have hown1 := own_keep hown b1; have hw1 := ab_trans hw b1)
          | (at_builtin; refine app_own A rfl rfl Try.underlying22 infoInt rfl (by decide) rfl hown1 (ints [(k : Int), y]) rfl ?c1 ?c2 ?c3 ?c4 ?c5 ?c6 hw1 ?_))
        case c1 => intro e; cases e
        case c2 => simp [ints]
        case c3 => exact own_src hN
        case c4 => exact ints_one _
        case c5 => unfold maxLen; omega
        case c6 => omega
        intro v' V2 hown' hnil b2 _
        clear hnil
        rw [ints_append] at hown'
        have hown2 : V2.ownsRow A.heap.size 3 1 v' (flatP (pp (hf c) (k + 1))).length (ints (flatP (pp (hf c) (k + 1)))) := by rw [HN.out]; simpa using hown'
        go_wp2_with fail
        go_roundw
        case rel => exact ⟨k + 1, by omega, by go_num, hown2, b2⟩
        case measure => simp [intOf]; omega
end Go.Proofs.Ytjbhicjnnghjjaa
namespace Go.Proofs.Ytjbhicjnnghjjaa
open Go.RowKit Go.Shelf
set_option linter.unusedVariables false
attribute [local go_sem] Oper.semAt_some

theorem own_kept {W W' : World} {row : Option Nat} {base e size n : Nat} {v : Value} {xs : List Value} (h : W.ownsRow base e size v n xs) (hg : W.grownBy W' row) (hr : ∀ r, row = some r → ∃ o : Obj, W.heap[r]? = some o ∧ o.isCells = false) : W'.ownsRow base e size v n xs := by
  refine ⟨h.1, ?_⟩
  rcases h.2 with h2 | ⟨g, cap, cur, h1, h2, h3, h4⟩
  · exact .inl h2
  · exact .inr ⟨g, cap, cur, h1, h2, blk_kept (b := g) h3 hg hr, h4⟩
/-- A number is written into an own row. -/
theorem own_set {W : World} {base n g cap i : Nat} {l : List Int} (h : W.ownsRow base 3 1 (.slice (some ⟨g, 0, none⟩) n cap) n (ints l)) (hi : i < n) (x : Int) :
    (W.setCell ⟨g, i, none⟩ (.int .i64 x)).ownsRow base 3 1 (.slice (some ⟨g, 0, none⟩) n cap) n (ints (l.set i x)) := by
  have hlen : l.length = n := by have := h.1; rw [ints_len, Nat.mul_one] at this; exact this
  rcases h.2 with ⟨h2, _⟩ | ⟨g', cap', cur, e, hb, hg, hnc, hcm, hcs, ht⟩
  · cases h2
  · cases e
    refine ⟨by rw [ints_len, List.length_set, hlen, Nat.mul_one], .inr ⟨g, cap, cur.setIfInBounds i (.int .i64 x), rfl, hb, Blk.set hg i _, hnc, hcm, by simpa using hcs, ?_⟩⟩
    rw [Array.toList_setIfInBounds, List.take_set, ht]
    simp [ints, List.map_set]
theorem own_blk {W : World} {base n g cap : Nat} {l : List Value} (h : W.ownsRow base 3 1 (.slice (some ⟨g, 0, none⟩) n cap) n l) : ∃ cur, Blk W g cur 3 := by
  rcases h.2 with ⟨h2, _⟩ | ⟨g', cap', cur, e, hb, hg, _⟩
  · cases h2
  · cases e; exact ⟨cur, hg⟩
theorem blk_apart {W : World} {b c : Nat} {vs us : Array Value} {t u : TypeId} (h : Blk W b vs t) (k : Blk W c us u) (hn : t ≠ u) : b ≠ c := by
  rintro rfl
  have e : W.heap[b]? = _ := h
  have f : W.heap[b]? = _ := k
  rw [e] at f
  cases f
  exact hn rfl
theorem own_chg {W W' : World} {base n g cap b : Nat} {l : List Value} (h : W.ownsRow base 3 1 (.slice (some ⟨g, 0, none⟩) n cap) n l) (hc : Chg b W W') (hn : g ≠ b) : W'.ownsRow base 3 1 (.slice (some ⟨g, 0, none⟩) n cap) n l := by
  refine ⟨h.1, ?_⟩
  rcases h.2 with ⟨h2, _⟩ | ⟨g', cap', cur, e, hb, hg, h4⟩
  · cases h2
  · cases e
    exact .inr ⟨g, cap, cur, rfl, hb, Blk.chg hg hc hn, h4⟩
section
variable {F : Fence} {fu : Nat} {ops : Array Oper} {rest : List Oper} {o : Oper} {a : Act} {w : World} {Q : Exit → Act → World → Prop}
theorem bs_ownI (hgd : o.guard = none) {n : Nat} {parts : Array (Nat × Operand)} (ho : o.op = .buildSlice 22 n parts) (xs : List Int) {vs : Array (Nat × Value)} (hl : parts.map (fun (i, x) => (i, a.eval x)) = vs)
    (hrun : (Instr.buildSlice 22 n vs).run Try.prog w = .ok (.slice (some ⟨w.heap.size, 0, none⟩) n n) (w.alloc (.cells (ints xs).toArray 3))) (hn : xs.length = n) (hm : n ≤ maxLen)
    (h : ∀ W', W' = w.alloc (.cells (ints xs).toArray 3) → W'.ownsRow w.heap.size 3 1 (.slice (some ⟨w.heap.size, 0, none⟩) n n) n (ints xs) → Below w.heap.size w W' → wpListIn F fu Try.prog ops Q rest (a.put o.dst (.slice (some ⟨w.heap.size, 0, none⟩) n n)) W') : wpListIn F fu Try.prog ops Q (o :: rest) a w := by
  refine wpListIn_plain hgd fun K hK' => ?_
  unfold Oper.wpIn
  refine ⟨?_, ?_⟩
  · simp [Oper.about, ho]
  · rw [Oper.semAt_plain F _ _ (by rw [ho]; intro c hc'; cases hc')]
    unfold execOp
    simp only [ho, Sem.run_bind, hl, hrun, Result.andThen_ok]
    exact hK' _ _ (h _ rfl (own_new w xs n hn hm _ (Nat.le_refl _)) ((Below.refl _ _).alloc (Nat.le_refl _) _))
end
/-- What has been gathered. -/
def toPV (p : Pl) : PV := ((p.1.1 : Int), p.1.2)
def gath (c : Nat → Int) (pre : List Pl) : List Int := hdF c (pre.length : Int) ++ flatP (pre.map toPV)
theorem gath_len (c : Nat → Int) (pre : List Pl) : (gath c pre).length = 10 + 2 * pre.length := by simp [gath, hdF, flatP_len]; omega
theorem gath_nine (c : Nat → Int) (pre : List Pl) : (gath c pre)[9]? = some (pre.length : Int) := by simp [gath, hdF]
theorem gath_snoc (c : Nat → Int) (pre : List Pl) (p : Pl) : (gath c pre).set 9 ((pre.length : Int) + 1) ++ [(p.1.1 : Int), p.1.2] = gath c (pre ++ [p]) := by
  unfold gath hdF
  rw [List.map_append, List.map_singleton, flatP_snoc]
  simp [toPV]
theorem prs_pp (h : Nat → Int) (hb) : ∀ k, k ≤ 65 → (prs h hb k).map toPV = pp h k
  | 0, _ => rfl
  | k + 1, hk => by
    have ih := prs_pp h hb k (by omega)
    rw [prs, dif_pos (by omega)]
    simp only [pp]
    by_cases z : h k = 0
    · rw [if_pos z, if_pos z, ih]
    · rw [if_neg z, if_neg z, List.map_append, ih]; rfl
theorem gath_all (c : Nat → Int) (hb) : gath c (prs (fun i => c (9 + i)) hb 65) = numsF c := by
  have h := prs_pp (fun i => c (9 + i)) hb 65 (by omega)
  have hl := congrArg List.length h
  rw [List.length_map] at hl
  unfold gath numsF
  rw [h, hl]
  rfl

set_option maxHeartbeats 1000000 in
set_option maxRecDepth 2000 in
theorem nums_any (c : Nat → Int) (w : World) (hc : Wf c) :
    Calls Try.prog 52 #[.agg (CA c)] w fun e w' => ∃ v, e = .returned v ∧ w'.ownsRow w.heap.size 3 1 v (numsF c).length (ints (numsF c)) ∧ v ≠ .slice none 0 0 ∧ Below w.heap.size w w' := by
  refine (callsIn_wide (n := 3)).1 (callsIn_of_wp_marks (n := 3) Try.func52 rfl trivial (wpIn_wide.2 ?_))
  simp only [Try.ntmps52, List.size_toArray, List.length_cons, List.length_nil, Nat.reduceAdd, Nat.reduceSub, Array.replicate_succ, Array.replicate_zero, List.push_toArray, List.append_toArray, List.nil_append, List.cons_append]
  go_upto_region 1 with fail
  have hA0 := Blk.new w (CA c) 80
  have hwA : Below w.heap.size w (w.alloc (.cells (CA c) 80)) := ab_alloc (Below.refl _ _) _
  have hzA : Hid (w.heap.size < (w.alloc (.cells (CA c) 80)).heap.size) := by show _ < _; simp
  generalize w.alloc (.cells (CA c) 80) = A at *
  obtain ⟨z0, z1, z2, z3, z4, z5, z6, z7, z8⟩ := hA0.nine
  have b2 := hc.1
  go_upto_region 2 with (refine bs_own rfl rfl (hdF c 0) (by simp only [List.map_toArray, List.map_cons, List.map_nil]; rfl) (isl10 _ _ _ _ _ _ _ _ _ _ _) rfl (by decide) ?_; intro V1 hN b1 y1)
  have hBX : Blk (V1.alloc (.cells #[.slice (some ⟨A.heap.size, 0, none⟩) 10 10] 22)) (A.heap.size + 1) #[.slice (some ⟨A.heap.size, 0, none⟩) 10 10] 22 := by rw [← y1]; exact Blk.new _ _ _
  have hN2 := own_keep hN ((Below.refl _ _).alloc (Nat.le_refl _) (.cells #[.slice (some ⟨A.heap.size, 0, none⟩) 10 10] 22))
  have hA2 := (hA0.keep b1).alloc (.cells #[.slice (some ⟨A.heap.size, 0, none⟩) 10 10] 22)
  have hwA2 := ab_alloc b1 (.cells #[.slice (some ⟨A.heap.size, 0, none⟩) 10 10] 22)
  clear z0 z1 z2 z3 z4 z5 z6 z7 z8 y1 b1 hN
  generalize V1.alloc (.cells #[.slice (some ⟨A.heap.size, 0, none⟩) 10 10] 22) = V2 at *
  have hbh : ∀ i, i < 65 → -9223372036854775808 ≤ c (9 + i) ∧ c (9 + i) ≤ 9223372036854775807 := fun i hi => hc.2 (9 + i) (by omega) (by omega)
  go_wp2_with (refine ld_hist9 rfl rfl hA2 rfl ?_)
  refine (pairs_any _ _).mono ?_
  rintro e V3 ⟨rfl, h8⟩
  have hP : Blk V3 V2.heap.size (HA fun i => c (9 + i)) 78 := by rw [h8]; exact Blk.new _ _ _
  have hBX3 : Blk V3 (A.heap.size + 1) #[.slice (some ⟨A.heap.size, 0, none⟩) 10 10] 22 := by rw [h8]; exact hBX.alloc _
  have hN3 : V3.ownsRow A.heap.size 3 1 (.slice (some ⟨A.heap.size, 0, none⟩) 10 10) 10 (ints (hdF c 0)) := by rw [h8]; exact own_keep hN2 ((Below.refl _ _).alloc (Nat.le_refl _) _)
  have hw3 : Below A.heap.size A V3 := by rw [h8]; exact ab_alloc hwA2 _
  clear h8 hBX hN2 hA2 hwA2
  dsimp only
  rename_i k1 hk1 k hk
  refine hk _ _ ?_
  show k1 _ _
  refine hk1 _ _ ?_
  refine (wpIn_wide (n := 3)).1 ?_
  gi_wp2
  refine wpIn_rangeFunc_ownF rfl (by omega) (gf := 67) (lb := #[.pointer (some ⟨V2.heap.size, 0, none⟩)]) rfl trivial (enters_of Try.func67 (by kernel_rfl) rfl)
    (pairs_stops 2 (by omega) V2.heap.size (fun i => c (9 + i)) hbh V3 hP (fun _ _ => True)) (fun _ _ => trivial) (fun _ _ _ _ _ _ _ _ => trivial) (Below.refl _ _) (fun _ => rfl)
    (fun pre W => (∃ g cap, Blk W (A.heap.size + 1) #[.slice (some ⟨g, 0, none⟩) (10 + 2 * pre.length) cap] 22 ∧ W.ownsRow A.heap.size 3 1 (.slice (some ⟨g, 0, none⟩) (10 + 2 * pre.length) cap) (10 + 2 * pre.length) (ints (gath c pre))) ∧ Below A.heap.size A W)
    (fun _ _ _ => False)
    (OwnFrom.and (Own.from (fun s A B row hs hg hr => by obtain ⟨g, cap, h1, h2⟩ := hs; exact ⟨g, cap, blk_kept h1 hg hr, own_kept h2 hg hr⟩) _) (ownFrom_below (Nat.le_refl _) hw3.size))
    (fun _ _ _ _ _ hs _ _ => hs)
    ⟨⟨_, _, hBX3, hN3⟩, hw3⟩ ?_ ?_ ?_ ?_ ?_
  rotate_left
  · intro l x W K hK
    gi_wp2
    exact hK
  · rintro l pre ⟨⟨p, v⟩, hp, hv⟩ W ⟨⟨g, cap, hX, hO⟩, hw⟩ hlt
    dsimp only at hp hv
    obtain ⟨cur, hcur⟩ := own_blk hO
    have hne : g ≠ A.heap.size + 1 := blk_apart hcur hX (by decide)
    have hne' : A.heap.size + 1 ≠ g := Ne.symm hne
    have cX := hX.at (i := 0) rfl
    have hgl := gath_len c pre
    obtain ⟨_, _, e9, _, _, _, _, hcs⟩ := own_cells hO (by simp)
    cases e9
    have c9 := hcs 9 (.int .i64 (pre.length : Int)) (by rw [ints_at, gath_nine]; rfl)
    have f9 := hcur.frozen 9
    have fX := hX.frozen 0
    have hO1 := own_set hO (i := 9) (by omega) ((pre.length : Int) + 1)
    have hX1 := hX.chg (chg_set W g 9 (.int .i64 ((pre.length : Int) + 1))) hne'
    have hgb : A.heap.size ≤ g := by
      rcases hO.2 with ⟨h2, _⟩ | ⟨g', cap', cur', e, hb, _⟩
      · cases h2
      · cases e; exact hb
    have hw1 := ab_chg hw (chg_set W g 9 (.int .i64 ((pre.length : Int) + 1))) hgb
    have HG : Hid ((gath c pre).set 9 ((pre.length : Int) + 1) ++ [(p : Int), v] = gath c (pre ++ [⟨(p, v), hp, hv⟩])) := gath_snoc c pre ⟨(p, v), hp, hv⟩
    have HL : Hid ((pre ++ [(⟨(p, v), hp, hv⟩ : Pl)]).length = pre.length + 1) := by show _ = _; simp
    obtain ⟨i0, hi, hz0, hz1, hz2⟩ := info_parts infoInt
    have h65 : (pre.length : Int) < 65 := by omega
    clear hcs hO hcur hgl
    generalize (gath c pre).set 9 ((pre.length : Int) + 1) = G at *
    gi_wp2_with (first
      | (refine bs_ownI rfl rfl [(p : Int), v] (by simp only [List.map_toArray, List.map_cons, List.map_nil]; rfl) (isl2 _ _ _) rfl (by decide) ?_; intro U hU hNv bU; have hO2 := own_keep hO1 bU; have hX2 := hX1.keep bU; have hw2 := ab_trans hw1 bU; have kU : KeepsOthers W U := (by rw [hU]; exact (KeepsOthers.setCell _ _ _).trans (KeepsOthers.alloc _ _)); clear hU)
      | (gi_at_builtin; refine wpListIn_append_own _ rfl _ _ 22 rfl A.heap.size 3 i0 (.int .i64 0) 1 8 Try.underlying22 hi hz0 hz1 hz2 rfl (by decide) _ _ _ rfl hO2 ⟨(W.setCell ⟨g, 9, none⟩ (.int .i64 ((pre.length : Int) + 1))).heap.size, 0, none⟩ 2 2 (ints [(p : Int), v]) rfl (by simp [ints]) ?c1 ?c2 ?c3 ?c4 ?c5 ?_))
    case c1 => intro j u hj; exact own_src hNv _ rfl j u hj
    case c2 => exact ints_one _
    case c3 => unfold maxLen; omega
    case c4 => omega
    case c5 => exact hw2.size
    intro v' U2 hown' hgrow hv'
    obtain ⟨cur2, hcur2⟩ := own_blk hO2
    obtain ⟨g', cap', rfl, _, hg', _, _, _⟩ := own_cells hown' hv'
    have hX3 : Blk U2 (A.heap.size + 1) #[.slice (some ⟨g, 0, none⟩) (10 + 2 * pre.length) cap] 22 := by
      unfold Blk; rw [hgrow.block _ hX2.lt (by intro e; cases e; exact hne rfl)]; exact hX2
    have hw3 : Below A.heap.size A U2 := hw2.grown hgrow hw2.size (fun r hr => by cases hr; exact hgb)
    have k2 : KeepsOthers U U2 := KeepsOthers.of_grownBy hgrow (fun j o hj ho => by
      cases hj
      have e : U.heap[g]? = _ := hcur2
      rw [e] at ho; cases ho; rfl)
    rw [ints_append, HG.out] at hown'
    obtain ⟨cur3, hcur3⟩ := own_blk hown'
    have hne3 : g' ≠ A.heap.size + 1 := blk_apart hcur3 hX3 (by decide)
    have cX3 := hX3.at (i := 0) rfl
    have fX3 := hX3.frozen 0
    have hX4 := hX3.set 0 (.slice (some ⟨g', 0, none⟩) (10 + 2 * pre.length + 2) cap')
    have C4 := chg_set U2 (A.heap.size + 1) 0 (.slice (some ⟨g', 0, none⟩) (10 + 2 * pre.length + 2) cap')
    have hO4 := own_chg hown' C4 hne3
    have hw4 := ab_chg hw3 C4 (by omega)
    gi_wp2
    refine ⟨kU.trans (k2.trans (KeepsOthers.setCell _ _ _)), trivial, ⟨g', cap', ?_, ?_⟩, hw4⟩
    · rw [HL.out, show 10 + 2 * (pre.length + 1) = 10 + 2 * pre.length + 2 from by omega]; exact hX4
    · rw [HL.out, show 10 + 2 * (pre.length + 1) = 10 + 2 * pre.length + 2 from by omega]; exact hO4
  · rintro D ys W hD rfl ⟨⟨g, cap, hX, hO⟩, hw⟩ hK
    rw [gath_all] at hO
    have cX := hX.at (i := 0) rfl
    have HL : Hid (10 + 2 * (prs (fun i => c (9 + i)) hbh 65).length = (numsF c).length) := by show _ = _; rw [← gath_all c hbh, gath_len]
    have hO2 := own_kept (own_less hO (base' := w.heap.size) (Nat.le_of_lt hzA.out)) (grownBy_putObj' W D (.deferred none)) (fun r e => by cases e; exact ⟨_, hK, rfl⟩)
    rw [HL.out] at hO2
    have hwD : Below w.heap.size w W := hwA.trans (hw.mono hwA.size)
    have hfin := hwD.trans (belowK_b (w := w) (Nat.le_refl _) W D _ (.deferred none) (by have := hwA.size; have := hw3.size; omega) hK rfl rfl)
    rw [HL.out] at cX
    go_wp2_with fail
    refine ⟨by simp, .inl ⟨_, _, rfl, run_takeDeferred hK, ?_⟩⟩
    refine ⟨.slice (some ⟨g, 0, none⟩) (numsF c).length cap, ?_, _, rfl, hO2, by simp, hfin⟩
    simp [results, Try.results52, go_sem]
  · rintro D c pre W _ _ h _
    exact h.elim
end Go.Proofs.Ytjbhicjnnghjjaa
namespace Go.Proofs.Ytjbhicjnnghjjaa
open Go.RowKit
set_option linter.unusedVariables false

theorem cneq_run (c d : Nat → Int) (w : World) : (binOp .neq 80 (.agg (CA c)) (.agg (CA d))).run Try.prog w = .ok (.bool (!eqC c d)) w := by
  have h := eq_cell c d w
  rw [run_eql_struct] at h
  rw [run_neq_struct]
  generalize (Op.equalIn 10000 80 (.agg (CA c)) (.agg (CA d))).run Try.prog w = R at *
  cases R <;> simp_all [Result.andThen]
theorem cneq_oper {o : Oper} {ρ : Operand → Value} {x y : Operand} {t' : TypeId} {c d : Nat → Int} (ho : o.op = .binOp .neq 80 x y t') (hx : ρ x = .agg (CA c)) (hy : ρ y = .agg (CA d)) (he : eqC c d = true) (w : World) :
    (execOp ρ o).run Try.prog w = .ok (.value (.bool false)) w := by
  unfold execOp
  simp only [ho, hx, hy, Sem.run_bind, eq_guard, cneq_run, he, Result.andThen_ok, Sem.run_pure, Bool.not_true]

/-- Numbers that begin with no cell. -/
def NoT (l : List Int) : Prop := l.length < 10 ∨ (10 ≤ l.length ∧ (l.getD 9 0 < 0 ∨ (((l.length - 10) / 2 : Nat) : Int) < l.getD 9 0)) ∨ (∃ ps more, Parts l ps more ∧ foldH ps = none)
theorem take_cases (l : List Int) : NoT l ∨ ∃ ps more nx h, Parts l ps more ∧ foldH ps = some (nx, h) := by
  by_cases h10 : l.length < 10
  · exact .inl (.inl h10)
  by_cases hb : l.getD 9 0 < 0 ∨ (((l.length - 10) / 2 : Nat) : Int) < l.getD 9 0
  · exact .inl (.inr (.inl ⟨by omega, hb⟩))
  obtain ⟨m, hm⟩ : ∃ m : Nat, l.getD 9 0 = (m : Int) := ⟨(l.getD 9 0).toNat, by omega⟩
  obtain ⟨ps, hl, hf⟩ := flatP_of m ((l.drop 10).take (2 * m)) (by rw [List.length_take, List.length_drop]; omega)
  have hp : Parts l ps ((l.drop 10).drop (2 * m)) := ⟨by omega, by rw [hm, hl], by rw [hf, List.take_append_drop]⟩
  cases e : foldH ps with
  | none => exact .inl (.inr (.inr ⟨ps, _, hp, e⟩))
  | some s => exact .inr ⟨ps, _, s.1, s.2, hp, e⟩
theorem take_none (q : Option Addr) (g off n cap : Nat) (l : List Int) (w : World) (hn : l.length = n) (hb : n ≤ 20000) (hk : n ≤ cap) (hp : 0 < n → q = some ⟨g, off, none⟩) (hg : 0 < n → g < w.heap.size) (hr : IRow w g off l) (h : NoT l) :
    Calls Try.prog 68 #[.slice q n cap] w fun e w' => e = .returned noTake ∧ Below w.heap.size w w' := by
  by_cases h10 : n < 10
  · exact take_short q n cap w h10
  · obtain rfl := hp (by omega)
    rcases h with h | ⟨_, h⟩ | ⟨ps, more, h1, h2⟩
    · omega
    · rw [hn] at h; exact take_bad g off n cap l w hn hb hk (by omega) (hg (by omega)) hr h
    · exact take_no g off n cap l ps more w hn hb hk (by omega) (hg (by omega)) hr h1 h2

theorem foldH_fit : ∀ (ps : List PV) nx h, foldH ps = some (nx, h) → (∀ p ∈ ps, Fit p.2) → ∀ i, Fit (h i) := by
  refine snoc_ind ?_ ?_
  · intro nx h e _ i
    simp [foldH] at e
    rw [← e.2]; exact ⟨by simp [zc], by simp [zc]⟩
  · intro ps p ih nx' h' e hp i
    rw [foldH_snoc] at e
    cases hs : foldH ps with
    | none => rw [hs] at e; cases e
    | some s =>
      obtain ⟨nx, h⟩ := s
      rw [hs] at e
      obtain ⟨h1, h2, h3, rfl, rfl⟩ := stepH_some e
      have := ih nx h hs (fun q hq => hp q (by simp [hq])) i
      unfold cup; split
      · exact hp p (by simp)
      · exact this
theorem flatP_mem : ∀ (ps : List PV) (p : PV), p ∈ ps → p.2 ∈ flatP ps
  | q :: ps, p, h => by
    rcases List.mem_cons.1 h with rfl | h
    · simp [flatP]
    · have := flatP_mem ps p h
      simp only [flatP, List.flatMap_cons] at this ⊢
      exact List.mem_append_right _ this
theorem cellOf_wf {l : List Int} {ps : List PV} {more : List Int} {nx : Nat} {h : Nat → Int} (hp : Parts l ps more) (e : foldH ps = some (nx, h)) (hf : ∀ x ∈ l, Fit x) : Wf (cellOf l h) := by
  have hget : ∀ i, Fit (l.getD i 0) := fun i => by
    by_cases c : i < l.length
    · rw [List.getD_eq_getElem?_getD, List.getElem?_eq_getElem c]; exact hf _ (List.getElem_mem c)
    · rw [List.getD_eq_getElem?_getD, List.getElem?_eq_none (by omega)]; exact ⟨by simp, by simp⟩
  have hh := foldH_fit ps nx h e (fun p hp' => hf _ (List.mem_of_mem_drop (i := 10) (by rw [hp.rest]; exact List.mem_append_left _ (flatP_mem ps p hp'))))
  refine ⟨?_, fun i hi h2 => ?_⟩
  · unfold cellOf; rw [if_pos (by omega), if_pos rfl]; unfold uw; omega
  · unfold cellOf
    split
    · exact hget i
    · exact hh _
theorem numsF_len (c : Nat → Int) : 10 ≤ (numsF c).length ∧ (numsF c).length ≤ 140 := by
  have := pp_len (hf c) 65
  simp [numsF, hdF, flatP_len]; omega
end Go.Proofs.Ytjbhicjnnghjjaa
