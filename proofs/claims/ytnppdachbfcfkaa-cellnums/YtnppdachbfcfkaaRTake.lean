/-
  The document's cell that numbers begin with: estuaryref02.Take.
-/
import Derived.Test.YtnppdachbfcfkaaTakeAll
namespace Go.Proofs.Ytnppdachbfcfkaa
open Go.RowKit
set_option linter.unusedVariables false

def rNo : Value := .tuple #[.agg (CA zc), .int .i64 0]
def rtR (l : List Int) (ps : List PV) : Value := match foldH ps with
  | some s => .tuple #[.agg (CA (cellOf l s.2)), .int .i64 ((10 + 2 * ps.length : Nat) : Int)]
  | none => rNo
theorem built_take5 (x0 x1 x2 x3 x4 x5 x6 x7 x8 : Int) : Try.prog.built 31 [(0, .int .i64 x0), (1, .agg #[.int .i64 x1, .int .u64 x2]), (2, .int .i64 x3), (3, .int .i64 x4), (4, .agg #[.int .i64 x5, .int .i64 x6, .int .i64 x7, .int .i64 x8])] =
    some (CA (takeC x0 x1 x2 x3 x4 x5 x6 x7 x8 zc)) := by kernel_rfl
theorem cellOf_cup (l : List Int) (h : Nat → Int) (p : Nat) (v : Int) : ∀ i, i < 74 → cup (cellOf l h) (9 + p) v i = cellOf l (cup h p v) i := by
  intro i hi
  unfold cup cellOf
  by_cases c : i < 9
  · rw [if_neg (by omega), if_pos c, if_pos c]
  · rw [if_neg c]
    show _ = if i < 9 then _ else (if i - 9 = p then v else h (i - 9))
    rw [if_neg c]
    by_cases d : i = 9 + p
    · rw [if_pos d, if_pos (by omega)]
    · rw [if_neg d, if_neg (by omega)]
theorem cellOf_wf2 {l : List Int} {h : Nat → Int} (hf : ∀ x ∈ l, Fit x) (hh : ∀ k, Fit (h k)) : Wf (cellOf l h) := by
  have hget : ∀ i, Fit (l.getD i 0) := fun i => by
    by_cases c : i < l.length
    · rw [List.getD_eq_getElem?_getD, List.getElem?_eq_getElem c]; exact hf _ (List.getElem_mem c)
    · rw [List.getD_eq_getElem?_getD, List.getElem?_eq_none (by omega)]; exact ⟨by simp, by simp⟩
  refine ⟨?_, fun i hi h2 => ?_⟩
  · unfold cellOf; rw [if_pos (by omega), if_pos rfl]; unfold uw; omega
  · unfold cellOf
    split
    · exact hget i
    · exact hh _
theorem rt_none {l : List Int} {ps : List PV} (h : foldH ps = none) : rtR l ps = rNo := by unfold rtR; rw [h]
theorem rt_some {l : List Int} {ps : List PV} {nx : Nat} {h : Nat → Int} (e : foldH ps = some (nx, h)) : rtR l ps = .tuple #[.agg (CA (cellOf l h)), .int .i64 ((10 + 2 * ps.length : Nat) : Int)] := by unfold rtR; rw [e]
theorem foldH_of_R {ps : List PV} (h : foldR ps = none) : foldH ps = none := by
  cases e : foldH ps with
  | none => rfl
  | some s => have := foldR_of_H ps s.1 s.2 e; rw [h] at this; cases this

set_option maxRecDepth 100000 in
set_option maxHeartbeats 1000000 in
/-- Refused by its head. -/
theorem rtake_head (q : Option Addr) (g off n cap : Nat) (l : List Int) (w : World) (hn : l.length = n) (hb : n ≤ 5000) (hp : 0 < n → q = some ⟨g, off, none⟩) (hg : 0 < n → g < w.heap.size) (hr : IRow w g off l) (h : n < 10 ∨ l.getD 9 0 < 0 ∨ 65 < l.getD 9 0 ∨ (n : Int) < 10 + 2 * l.getD 9 0) :
    Calls Try.prog 21 #[.slice q n cap] w fun e w' => e = .returned rNo ∧ Below w.heap.size w w' := by
  by_cases t0 : n < 10
  · have t0' : (n : Int) < 10 := by omega
    clear h hr
    go_enter Try.func21, Try.ntmps21
    go_wp2_with (first
      | (refine al_cell rfl rfl ?_; intro W1 e1 hR1 b1; clear e1)
      | (refine bd_zero rfl rfl ?_)
      | (refine st_cell rfl rfl hR1 rfl rfl ?_; intro W3 hR3 C3))
    exact bodyPost_ret (results_c2 rfl _ _ _ 31 _ (0, 0) _ _ rfl rfl hR3 Try.underlying31 rfl (info_cell _)) rfl ⟨rfl, ab_chg b1 C3 (Nat.le_refl _)⟩
  · obtain rfl := hp (by omega)
    have hg0 := hg (by omega)
    have c9 : ∀ W, Below w.heap.size w W → W.cell? ⟨g, off + 9, none⟩ = some (.int .i64 (l.getD 9 0)) := fun W hW => (hW.cell (p := ⟨g, off + 9, none⟩) hg0).trans (hr 9 _ (by rw [List.getD_eq_getElem?_getD, List.getElem?_eq_getElem (by omega)]; rfl))
    have t0' : decide ((n : Int) < 10) = false := decide_eq_false (by omega)
    have h9n : (9 : Int) < (n : Int) := by omega
    generalize l.getD 9 0 = y at *
    clear hr hp hg
    by_cases t1 : y < 0
    · clear h
      go_enter Try.func21, Try.ntmps21
      go_upto_region 1 with (refine al_cell rfl rfl ?_; intro W1 e1 hR1 b1; clear e1)
      have d9 := c9 _ b1
      go_wp2_with (first
        | (refine bd_zero rfl rfl ?_)
        | (refine st_cell rfl rfl hR1 rfl rfl ?_; intro W3 hR3 C3))
      exact bodyPost_ret (results_c2 rfl _ _ _ 31 _ (0, 0) _ _ rfl rfl hR3 Try.underlying31 rfl (info_cell _)) rfl ⟨rfl, ab_chg b1 C3 (Nat.le_refl _)⟩
    · have t1' : decide (y < 0) = false := decide_eq_false t1
      by_cases t2 : 65 < y
      · clear h
        go_enter Try.func21, Try.ntmps21
        go_upto_region 1 with (refine al_cell rfl rfl ?_; intro W1 e1 hR1 b1; clear e1)
        have d9 := c9 _ b1
        go_wp2_with (first
          | (refine bd_zero rfl rfl ?_)
          | (refine st_cell rfl rfl hR1 rfl rfl ?_; intro W3 hR3 C3))
        exact bodyPost_ret (results_c2 rfl _ _ _ 31 _ (0, 0) _ _ rfl rfl hR3 Try.underlying31 rfl (info_cell _)) rfl ⟨rfl, ab_chg b1 C3 (Nat.le_refl _)⟩
      · have t2' : decide (65 < y) = false := decide_eq_false t2
        have t3 : (n : Int) < 10 + 2 * y := by omega
        have y0 : 0 ≤ y := by omega
        have y1 : y ≤ 65 := by omega
        clear h
        go_enter Try.func21, Try.ntmps21
        go_upto_region 1 with (refine al_cell rfl rfl ?_; intro W1 e1 hR1 b1; clear e1)
        have d9 := c9 _ b1
        go_wp2_with (first
          | (refine bd_zero rfl rfl ?_)
          | (refine st_cell rfl rfl hR1 rfl rfl ?_; intro W3 hR3 C3))
        exact bodyPost_ret (results_c2 rfl _ _ _ 31 _ (0, 0) _ _ rfl rfl hR3 Try.underlying31 rfl (info_cell _)) rfl ⟨rfl, ab_chg b1 C3 (Nat.le_refl _)⟩

set_option maxRecDepth 100000 in
set_option maxHeartbeats 2000000 in
theorem rtake_body (g off n cap : Nat) (l : List Int) (ps : List PV) (more : List Int) (w : World) (hn : l.length = n) (hb : n ≤ 5000) (hg : g < w.heap.size) (hr : IRow w g off l) (hp : Parts l ps more) (h65 : ps.length ≤ 65) (hfit : ∀ x ∈ l, Fit x) :
    Calls Try.prog 21 #[.slice (some ⟨g, off, none⟩) n cap] w fun e w' => e = .returned (rtR l ps) ∧ Below w.heap.size w w' := by
  have hrest := hp.rest
  have h10 := hp.len
  have hlr := congrArg List.length hrest
  rw [List.length_drop, List.length_append, flatP_len, hn] at hlr
  have HC : Hid (CA (takeC (l.getD 0 0) (l.getD 1 0) (IntKind.u64.wrap (l.getD 2 0)) (l.getD 3 0) (l.getD 4 0) (l.getD 5 0) (l.getD 6 0) (l.getD 7 0) (l.getD 8 0) zc) = CA (cellOf l zc)) := CA_congr (takeC_cell l zc)
  have cl : ∀ i, i < 10 → ∀ W, Below w.heap.size w W → W.cell? ⟨g, off + i, none⟩ = some (.int .i64 (l.getD i 0)) := fun i hi W hW => (hW.cell (p := ⟨g, off + i, none⟩) hg).trans (hr i _ (by rw [List.getD_eq_getElem?_getD, List.getElem?_eq_getElem (by omega)]; rfl))
  have L9 := cl 9 (by omega)
  rw [hp.nine] at L9
  have hget2 : Fit (l.getD 2 0) := by rw [List.getD_eq_getElem?_getD, List.getElem?_eq_getElem (by omega)]; exact hfit _ (List.getElem_mem _)
  have HAG : Hid (∀ hs, foldR ps = some hs → (numsF (cellOf l hs) = l.take (10 + 2 * ps.length) → ∃ nx h, foldH ps = some (nx, h) ∧ ∀ i, i < 65 → h i = hs i) ∧ (∀ nx h, foldH ps = some (nx, h) → numsF (cellOf l hs) = l.take (10 + 2 * ps.length))) := fun hs e => again_iff hp e hget2.1 hget2.2
  have hfp : ∀ p ∈ ps, Fit p.2 := fun p hp' => hfit _ (List.mem_of_mem_drop (i := 10) (by rw [hrest]; exact List.mem_append_left _ (flatP_mem ps p hp')))
  have cp : ∀ j p, ps[j]? = some p → ∀ W, Below w.heap.size w W → W.cell? ⟨g, off + (10 + 2 * j), none⟩ = some (.int .i64 p.1) ∧ W.cell? ⟨g, off + (10 + 2 * j + 1), none⟩ = some (.int .i64 p.2) := fun j p hj W hW => by
    obtain ⟨x1, x2⟩ := flatP_at ps j p hj
    have e1 : l[10 + 2 * j]? = some p.1 := by rw [← List.getElem?_drop, hrest, List.getElem?_append_left (by have := (List.getElem?_eq_some_iff.1 x1).1; exact this)]; exact x1
    have e2 : l[10 + 2 * j + 1]? = some p.2 := by rw [Nat.add_assoc, ← List.getElem?_drop, hrest, List.getElem?_append_left (by have := (List.getElem?_eq_some_iff.1 x2).1; exact this)]; exact x2
    exact ⟨(hW.cell (p := ⟨g, off + (10 + 2 * j), none⟩) hg).trans (hr _ _ e1), (hW.cell (p := ⟨g, off + (10 + 2 * j + 1), none⟩) hg).trans (hr _ _ e2)⟩
  obtain ⟨m, hm⟩ : ∃ m, m = ps.length := ⟨_, rfl⟩
  have HM : Hid (ps.length = m) := hm.symm
  rw [← hm] at L9 hlr h65 HAG
  clear hm hrest
  have L0 := cl 0 (by omega)
  rw [Nat.add_zero] at L0
  have L1 := cl 1 (by omega)
  have L2 := cl 2 (by omega)
  have L3 := cl 3 (by omega)
  have L4 := cl 4 (by omega)
  have L5 := cl 5 (by omega)
  have L6 := cl 6 (by omega)
  have L7 := cl 7 (by omega)
  have L8 := cl 8 (by omega)
  have hlt : ∀ i x, l[i]? = some x → ∀ W, Below w.heap.size w W → W.cell? ⟨g, off + i, none⟩ = some (.int .i64 x) := fun i x hx W hW => (hW.cell (p := ⟨g, off + i, none⟩) hg).trans (hr i x hx)
  clear cl
  generalize l.getD 0 0 = y0 at *
  generalize l.getD 1 0 = y1 at *
  generalize l.getD 2 0 = y2 at *
  generalize l.getD 3 0 = y3 at *
  generalize l.getD 4 0 = y4 at *
  generalize l.getD 5 0 = y5 at *
  generalize l.getD 6 0 = y6 at *
  generalize l.getD 7 0 = y7 at *
  generalize l.getD 8 0 = y8 at *
  have t0 : decide ((n : Int) < 10) = false := decide_eq_false (by omega)
  have t2 : decide (65 < (m : Int)) = false := decide_eq_false (by omega)
  have t3 : decide ((n : Int) < 10 + 2 * (m : Int)) = false := decide_eq_false (by omega)
  have hmi : (m : Int) ≤ 65 := by omega
  have hj0 : 0 < n := by omega
  have hj1 : (1 : Int) < (n : Int) := by omega
  have hj2 : (2 : Int) < (n : Int) := by omega
  have hj3 : (3 : Int) < (n : Int) := by omega
  have hj4 : (4 : Int) < (n : Int) := by omega
  have hj5 : (5 : Int) < (n : Int) := by omega
  have hj6 : (6 : Int) < (n : Int) := by omega
  have hj7 : (7 : Int) < (n : Int) := by omega
  have hj8 : (8 : Int) < (n : Int) := by omega
  have hj9 : (9 : Int) < (n : Int) := by omega
  have HLR : Hid (n - 10 = 2 * m + more.length) := hlr
  have hnm : 10 + 2 * m ≤ n := by omega
  clear hlr hget2
  go_enter Try.func21, Try.ntmps21
  go_upto_region 1 with (refine al_cell rfl rfl ?_; intro W1 e1 hR1 b1; clear e1)
  have d9 := L9 _ b1
  go_upto_region 3 with fail
  refine wp_region_held_drew (S := fun w' => Blk w' w.heap.size (CA zc) 31 ∧ Below w.heap.size w w') (by kernel_rfl) ⟨hR1.drew, ab_drew b1⟩ (fun hHeld => ?_)
  refine takeH (i := 0) (some 35) rfl rfl (by kernel_rfl) (by kernel_rfl) (by kernel_rfl) (fun _ _ _ h => h) (by rfl) (fun w hSw => by (try dsimp only at hSw); go_simp; try rfl) hHeld ?_
  go_frame
  refine takeH (i := 1) (some 36) rfl rfl (by kernel_rfl) (by kernel_rfl) (by kernel_rfl) (fun _ _ _ h => h) (by rfl) (fun w hSw => by (try dsimp only at hSw); go_simp; try rfl) hHeld ?_
  go_frame
  refine takeH (i := 2) (some 37) rfl rfl (by kernel_rfl) (by kernel_rfl) (by kernel_rfl) (fun _ _ _ h => h) (by rfl) (fun w hSw => by (try dsimp only at hSw); have s1 := L0 _ hSw.2; go_simp; try rfl) hHeld ?_
  go_frame
  refine takeH (i := 3) (some 38) rfl rfl (by kernel_rfl) (by kernel_rfl) (by kernel_rfl) (fun _ _ _ h => h) (by rfl) (fun w hSw => by (try dsimp only at hSw); go_simp; try rfl) hHeld ?_
  go_frame
  refine takeH (i := 4) (some 39) rfl rfl (by kernel_rfl) (by kernel_rfl) (by kernel_rfl) (fun _ _ _ h => h) (by rfl) (fun w hSw => by (try dsimp only at hSw); go_simp; try rfl) hHeld ?_
  go_frame
  refine takeH (i := 5) (some 40) rfl rfl (by kernel_rfl) (by kernel_rfl) (by kernel_rfl) (fun _ _ _ h => h) (by rfl) (fun w hSw => by (try dsimp only at hSw); have s1 := L1 _ hSw.2; go_simp; try rfl) hHeld ?_
  go_frame
  refine takeH (i := 6) (some 41) rfl rfl (by kernel_rfl) (by kernel_rfl) (by kernel_rfl) (fun _ _ _ h => h) (by rfl) (fun w hSw => by (try dsimp only at hSw); go_simp; try rfl) hHeld ?_
  go_frame
  refine takeH (i := 7) (some 42) rfl rfl (by kernel_rfl) (by kernel_rfl) (by kernel_rfl) (fun _ _ _ h => h) (by rfl) (fun w hSw => by (try dsimp only at hSw); go_simp; try rfl) hHeld ?_
  go_frame
  refine takeH (i := 8) (some 43) rfl rfl (by kernel_rfl) (by kernel_rfl) (by kernel_rfl) (fun _ _ _ h => h) (by rfl) (fun w hSw => by (try dsimp only at hSw); have s1 := L2 _ hSw.2; go_simp; try rfl) hHeld ?_
  go_frame
  refine takeH (i := 9) (some 44) rfl rfl (by kernel_rfl) (by kernel_rfl) (by kernel_rfl) (fun _ _ _ h => h) (by rfl) (fun w hSw => by (try dsimp only at hSw); go_simp; try rfl) hHeld ?_
  go_frame
  refine takeH (i := 10) (some 45) rfl rfl (by kernel_rfl) (by kernel_rfl) (by kernel_rfl) (fun _ _ _ h => h) (by rfl) (fun w hSw => by (try dsimp only at hSw); go_simp; try rfl) hHeld ?_
  go_frame
  refine takeH (i := 11) (some 46) rfl rfl (by kernel_rfl) (by kernel_rfl) (by kernel_rfl) (fun _ _ _ h => h) (by rfl) (fun w hSw => by (try dsimp only at hSw); go_simp; try rfl) hHeld ?_
  go_frame
  refine takeH (i := 12) (some 47) rfl rfl (by kernel_rfl) (by kernel_rfl) (by kernel_rfl) (fun _ _ _ h => h) (by rfl) (fun w hSw => by (try dsimp only at hSw); go_simp; try rfl) hHeld ?_
  go_frame
  refine takeH (i := 13) (some 48) rfl rfl (by kernel_rfl) (by kernel_rfl) (by kernel_rfl) (fun _ _ _ h => h) (by rfl) (fun w hSw => by (try dsimp only at hSw); have s1 := L3 _ hSw.2; go_simp; try rfl) hHeld ?_
  go_frame
  refine takeH (i := 14) (some 49) rfl rfl (by kernel_rfl) (by kernel_rfl) (by kernel_rfl) (fun _ _ _ h => h) (by rfl) (fun w hSw => by (try dsimp only at hSw); go_simp; try rfl) hHeld ?_
  go_frame
  refine takeH (i := 15) (some 50) rfl rfl (by kernel_rfl) (by kernel_rfl) (by kernel_rfl) (fun _ _ _ h => h) (by rfl) (fun w hSw => by (try dsimp only at hSw); go_simp; try rfl) hHeld ?_
  go_frame
  refine takeH (i := 16) (some 51) rfl rfl (by kernel_rfl) (by kernel_rfl) (by kernel_rfl) (fun _ _ _ h => h) (by rfl) (fun w hSw => by (try dsimp only at hSw); have s1 := L4 _ hSw.2; go_simp; try rfl) hHeld ?_
  go_frame
  refine takeH (i := 17) (some 52) rfl rfl (by kernel_rfl) (by kernel_rfl) (by kernel_rfl) (fun _ _ _ h => h) (by rfl) (fun w hSw => by (try dsimp only at hSw); go_simp; try rfl) hHeld ?_
  go_frame
  refine takeH (i := 18) (some 53) rfl rfl (by kernel_rfl) (by kernel_rfl) (by kernel_rfl) (fun _ _ _ h => h) (by rfl) (fun w hSw => by (try dsimp only at hSw); go_simp; try rfl) hHeld ?_
  go_frame
  refine takeH (i := 19) (some 54) rfl rfl (by kernel_rfl) (by kernel_rfl) (by kernel_rfl) (fun _ _ _ h => h) (by rfl) (fun w hSw => by (try dsimp only at hSw); have s1 := L5 _ hSw.2; go_simp; try rfl) hHeld ?_
  go_frame
  refine takeH (i := 20) (some 55) rfl rfl (by kernel_rfl) (by kernel_rfl) (by kernel_rfl) (fun _ _ _ h => h) (by rfl) (fun w hSw => by (try dsimp only at hSw); go_simp; try rfl) hHeld ?_
  go_frame
  refine takeH (i := 21) (some 56) rfl rfl (by kernel_rfl) (by kernel_rfl) (by kernel_rfl) (fun _ _ _ h => h) (by rfl) (fun w hSw => by (try dsimp only at hSw); go_simp; try rfl) hHeld ?_
  go_frame
  refine takeH (i := 22) (some 57) rfl rfl (by kernel_rfl) (by kernel_rfl) (by kernel_rfl) (fun _ _ _ h => h) (by rfl) (fun w hSw => by (try dsimp only at hSw); have s1 := L6 _ hSw.2; go_simp; try rfl) hHeld ?_
  go_frame
  refine takeH (i := 23) (some 58) rfl rfl (by kernel_rfl) (by kernel_rfl) (by kernel_rfl) (fun _ _ _ h => h) (by rfl) (fun w hSw => by (try dsimp only at hSw); go_simp; try rfl) hHeld ?_
  go_frame
  refine takeH (i := 24) (some 59) rfl rfl (by kernel_rfl) (by kernel_rfl) (by kernel_rfl) (fun _ _ _ h => h) (by rfl) (fun w hSw => by (try dsimp only at hSw); go_simp; try rfl) hHeld ?_
  go_frame
  refine takeH (i := 25) (some 60) rfl rfl (by kernel_rfl) (by kernel_rfl) (by kernel_rfl) (fun _ _ _ h => h) (by rfl) (fun w hSw => by (try dsimp only at hSw); have s1 := L7 _ hSw.2; go_simp; try rfl) hHeld ?_
  go_frame
  refine takeH (i := 26) (some 61) rfl rfl (by kernel_rfl) (by kernel_rfl) (by kernel_rfl) (fun _ _ _ h => h) (by rfl) (fun w hSw => by (try dsimp only at hSw); go_simp; try rfl) hHeld ?_
  go_frame
  refine takeH (i := 27) (some 62) rfl rfl (by kernel_rfl) (by kernel_rfl) (by kernel_rfl) (fun _ _ _ h => h) (by rfl) (fun w hSw => by (try dsimp only at hSw); go_simp; try rfl) hHeld ?_
  go_frame
  refine takeH (i := 28) (some 63) rfl rfl (by kernel_rfl) (by kernel_rfl) (by kernel_rfl) (fun _ _ _ h => h) (by rfl) (fun w hSw => by (try dsimp only at hSw); have s1 := L8 _ hSw.2; go_simp; try rfl) hHeld ?_
  go_frame
  refine takeH (i := 29) (some 64) rfl rfl (by kernel_rfl) (by kernel_rfl) (by kernel_rfl) (fun _ _ _ h => h) (by rfl) (fun w hSw => by (try dsimp only at hSw); go_simp; try rfl) hHeld ?_
  go_frame
  refine takeH (i := 30) (some 65) rfl rfl (by kernel_rfl) (by kernel_rfl) (by kernel_rfl) (fun _ _ _ h => h) (by rfl) (fun w hSw => by (try dsimp only at hSw); exact bd_run rfl (built_take5 y0 y1 (IntKind.u64.wrap y2) y3 y4 y5 y6 y7 y8) (by simp only [List.map_toArray, List.map_cons, List.map_nil]; rfl) w) hHeld ?_
  go_frame
  refine wpAnyH_ready (rs := [31]) (by kernel_rfl) (by simp) (AllReadyH.cons rfl (fun K hK => ?_) AllReadyH.nil)
  rw [if_pos (by rfl)]
  refine alW (some 4) rfl rfl (CA zc) (zero_cell _) fun W5 hY5 b5 => ?_
  have hRl := hHeld.1.lt
  refine hK.out _ _ ⟨hHeld.1.keep b5, ab_trans hHeld.2 b5⟩ (fun hHeld => ?_)
  clear hK K b5
  go_frame
  refine wpAnyH_ready (rs := [32]) (by kernel_rfl) (by simp) (AllReadyH.cons rfl (fun K hK => ?_) AllReadyH.nil)
  rw [if_pos (by rfl)]
  refine stW none rfl rfl hY5 rfl rfl (info_cell _) (by rw [CA_size, CA_size]) (CA_one _) fun W6 hY6 C6 => ?_
  refine hK.out _ _ ⟨hHeld.1.chg C6 (by omega), ab_chg hHeld.2 C6 (by omega)⟩ (fun hHeld => ?_)
  clear hK K C6 hY5
  refine wpAnyH_done (by kernel_rfl) ?_ _
  go_frame
  rw [HC.out] at hY6
  obtain ⟨hR6, hw6⟩ := hHeld
  clear hR1 b1 d9 HC L0 L1 L2 L3 L4 L5 L6 L7 L8 hj0 hj1 hj2 hj3 hj4 hj5 hj6 hj7 hj8
  obtain ⟨C, hC⟩ : ∃ C, C = W1.drew.heap.size := ⟨_, rfl⟩
  rw [← hC] at hY6 hRl ⊢
  clear hC
  have d9 := L9 _ hw6
  go_wp2_with fail
  clear d9 L9
  go_loopw [6] (fun i wr => ∃ (j : Nat) (hs : Nat → Int), j ≤ m ∧ i = .int .i64 ((10 + 2 * j : Nat) : Int) ∧ foldR (ps.take j) = some hs ∧ (∀ k, Fit (hs k)) ∧ Blk wr C (CA (cellOf l hs)) 31 ∧ Blk wr w.heap.size (CA zc) 31 ∧ Below w.heap.size w wr) (fun i _ => 10 + 2 * m - (intOf i).toNat)
  case atStart => exact ⟨0, zc, by omega, rfl, rfl, fun _ => ⟨by simp [zc], by simp [zc]⟩, hY6, hR6, hw6⟩
  case round =>
    clear hY6 hR6 hw6
    obtain ⟨j, hs, hj, rfl, hf, hfs, hY, hR, hw⟩ := hrel
    by_cases cj : j = m
    · subst cj
      have HF : Hid (foldR ps = some hs) := by show _ = _; rw [← hf, List.take_of_length_le (by rw [HM.out]; omega)]
      clear cp hf
      have hwf := cellOf_wf2 hfit hfs
      have hnl := numsF_len (cellOf l hs)
      have hmm : ((10 + 2 * j : Nat) : Int) = 10 + 2 * (j : Int) := by omega
      rw [hmm]
      clear hmm
      go_upto_region 12 with (first
        | (refine ld_cell rfl rfl hY rfl ?_)
        | (go_at_call 19; refine (rnums_any _ _ hwf).mono ?_; rintro e W7 ⟨v, rfl, hown, hv, b7⟩))
      obtain ⟨_, q7, g7, cap7, rfl, hp7, hg7, _, hk7, hr7⟩ := own_irow hown
      have hY7 := hY.keep b7
      have hR7 := hR.keep b7
      have hw7 := ab_trans hw b7
      have HAA : Hid (_ ∧ _) := HAG.out hs HF.out
      clear hown hv hY hR hw b7 hwf hfs HAG
      generalize numsF (cellOf l hs) = A at *
      by_cases hl : A.length = 10 + 2 * j
      · have hb2 : ((A.length : Int) != 10 + 2 * (j : Int)) = false := by simp; omega
        obtain rfl := hp7 (by omega)
        have hg7' := hg7 (by omega)
        have HL : Hid (A.length = 10 + 2 * j) := hl
        have hAi : (A.length : Int) ≤ 140 := by omega
        have hAl : 10 + 2 * (j : Int) ≤ (A.length : Int) := by omega
        clear hl
        go_wp2_with fail
        go_loopw [8] (fun i wr => ∃ t : Nat, t ≤ 10 + 2 * j ∧ i = .int .i64 (t : Int) ∧ (∀ u, u < t → A[u]? = l[u]?) ∧ Below W7.heap.size W7 wr) (fun i _ => 10 + 2 * j - (intOf i).toNat)
        case atStart => exact ⟨0, by omega, rfl, fun u hu => absurd hu (by omega), Below.refl _ _⟩
        case round =>
          obtain ⟨t, ht, rfl, hs2, hb8⟩ := hrel
          have hY8 := hY7.keep hb8
          have hR8 := hR7.keep hb8
          have hw8 := ab_trans hw7 hb8
          by_cases ct : t = 10 + 2 * j
          · have HE : Hid (rtR l ps = .tuple #[.agg (CA (cellOf l hs)), .int .i64 (10 + 2 * (j : Int))]) := by
              have e : A = l.take (10 + 2 * j) := by
                apply List.ext_getElem?
                intro u
                by_cases c : u < 10 + 2 * j
                · rw [List.getElem?_take_of_lt c]; exact hs2 u (by omega)
                · rw [List.getElem?_eq_none (by rw [HL.out]; omega), List.getElem?_eq_none (by rw [List.length_take]; omega)]
              obtain ⟨nx, h, e1, e2⟩ := HAA.out.1 e
              show _ = _
              rw [rt_some e1, HM.out, CA_congr (c := cellOf l h) (d := cellOf l hs) (fun i hi => by unfold cellOf; split; rfl; exact e2 _ (by omega))]
              rfl
            have hti : (t : Int) = 10 + 2 * (j : Int) := by omega
            rw [hti]
            clear hs2 HAA hlt ct hti hr7
            go_wp2_with (first
              | (refine ld_cell rfl rfl hY8 rfl ?_)
              | (refine st_cell rfl rfl hR8 rfl rfl ?_; intro W9 hR9 C9))
            exact bodyPost_ret (results_c2 rfl _ _ _ 31 _ (0, 0) _ _ rfl rfl hR9 Try.underlying31 rfl (info_cell _)) rfl ⟨by rw [HE.out]; rfl, ab_chg hw8 C9 (by omega)⟩
          · have htA : t < A.length := by rw [HL.out]; omega
            obtain ⟨x, hx⟩ : ∃ x, A[t]? = some x := ⟨A[t], List.getElem?_eq_getElem htA⟩
            obtain ⟨y, hy⟩ : ∃ y, l[t]? = some y := ⟨l[t], List.getElem?_eq_getElem (by omega)⟩
            have d1 := (hb8.cell (p := ⟨g7, 0 + t, none⟩) hg7').trans (hr7 t x hx)
            rw [Nat.zero_add] at d1
            have d2 := hlt t y hy _ hw8
            have hti : (t : Int) < 10 + 2 * (j : Int) := by omega
            have htAi : (t : Int) < (A.length : Int) := by omega
            have htn : (t : Int) < (n : Int) := by omega
            by_cases e : x = y
            · subst e
              have HS : Hid (∀ u, u < t + 1 → A[u]? = l[u]?) := by
                intro u hu
                by_cases c : u = t
                · subst c; rw [hx, hy]
                · exact hs2 u (by omega)
              have hxx : (x != x) = false := by simp
              clear hs2 hlt hr7 hx hy HAA
              go_upto_region 17 with fail
              go_quiet (fail)
              go_wp2_with fail
              go_roundw
              case rel => exact ⟨t + 1, by omega, by go_num, HS.out, ab_drewN hb8 _⟩
              case measure => simp [intOf]; omega
            · have HR : Hid (rtR l ps = rNo) := by
                cases e3 : foldH ps with
                | none => exact rt_none e3
                | some s =>
                  have h3 := HAA.out.2 s.1 s.2 e3
                  rw [h3, List.getElem?_take_of_lt (by omega), hy] at hx
                  exact absurd (Option.some.inj hx).symm e
              have hxy : (x != y) = true := by simpa using e
              clear hs2 hlt hr7 hx hy HAA
              go_upto_region 17 with fail
              go_quiet (fail)
              have hR9 := hR8.keep (ab_drewN (Below.refl _ wr) nq)
              have hw9 := ab_drewN hw8 nq
              go_wp2_with (first
                | (refine bd_zero rfl rfl ?_)
                | (refine st_cell rfl rfl hR9 rfl rfl ?_; intro W9 hR9 C9))
              exact bodyPost_ret (results_c2 rfl _ _ _ 31 _ (0, 0) _ _ rfl rfl hR9 Try.underlying31 rfl (info_cell _)) rfl ⟨by rw [HR.out]; rfl, ab_chg hw9 C9 (by omega)⟩
      · have HR : Hid (rtR l ps = rNo) := by
          cases e : foldH ps with
          | none => exact rt_none e
          | some s =>
            have := HAA.out.2 s.1 s.2 e
            exact absurd (by rw [this, List.length_take]; omega) hl
        have hb2 : ((A.length : Int) != 10 + 2 * (j : Int)) = true := by simp; omega
        clear HAA
        go_wp2_with (first
          | (refine bd_zero rfl rfl ?_)
          | (refine st_cell rfl rfl hR7 rfl rfl ?_; intro W9 hR9 C9))
        exact bodyPost_ret (results_c2 rfl _ _ _ 31 _ (0, 0) _ _ rfl rfl hR9 Try.underlying31 rfl (info_cell _)) rfl ⟨by rw [HR.out]; rfl, ab_chg hw7 C9 (by omega)⟩
    · have hjl : j < ps.length := by rw [HM.out]; omega
      obtain ⟨p, hpj⟩ : ∃ p, ps[j]? = some p := ⟨ps[j], List.getElem?_eq_getElem hjl⟩
      obtain ⟨d1, d2⟩ := cp j p hpj _ hw
      have HF : Hid (foldR (ps.take (j + 1)) = stepR (some hs) p) := by show _ = _; rw [List.take_add_one, hpj, ← hf]; exact foldR_snoc _ _
      have hp2 := hfp p (List.mem_of_getElem? hpj)
      obtain ⟨p1, p2⟩ := p
      dsimp only at d1 d2 hp2
      have hji : 10 + 2 * (j : Int) < 10 + 2 * (m : Int) := by omega
      have hjn : 10 + 2 * (j : Int) < (n : Int) := by omega
      have hjn1 : 10 + 2 * (j : Int) + 1 < (n : Int) := by omega
      have hj65 : (j : Int) ≤ 65 := by omega
      have ec : ((10 + 2 * j : Nat) : Int) = 10 + 2 * (j : Int) := by omega
      rw [ec]
      clear ec cp hpj hf hjl
      by_cases bad : p1 < 0 ∨ 64 < p1
      · have HR : Hid (rtR l ps = rNo) := by
          have h1 : foldR (ps.take (j + 1)) = none := by rw [HF.out]; simp only [stepR]; rw [if_pos bad]
          have h2 := foldR_stuck (ps.take (j + 1)) (ps.drop (j + 1)) h1
          rw [List.take_append_drop] at h2
          exact rt_none (foldH_of_R h2)
        clear HF
        by_cases t1 : p1 < 0
        · clear bad
          go_wp2_with (first
            | (refine bd_zero rfl rfl ?_)
            | (refine st_cell rfl rfl hR rfl rfl ?_; intro W9 hR9 C9))
          exact bodyPost_ret (results_c2 rfl _ _ _ 31 _ (0, 0) _ _ rfl rfl hR9 Try.underlying31 rfl (info_cell _)) rfl ⟨by rw [HR.out]; rfl, ab_chg hw C9 (by omega)⟩
        · have t1' : decide (p1 < 0) = false := decide_eq_false t1
          have t2' : 64 < p1 := by omega
          clear bad t1
          go_wp2_with (first
            | (refine bd_zero rfl rfl ?_)
            | (refine st_cell rfl rfl hR rfl rfl ?_; intro W9 hR9 C9))
          exact bodyPost_ret (results_c2 rfl _ _ _ 31 _ (0, 0) _ _ rfl rfl hR9 Try.underlying31 rfl (info_cell _)) rfl ⟨by rw [HR.out]; rfl, ab_chg hw C9 (by omega)⟩
      · have HN : Hid (foldR (ps.take (j + 1)) = some (cup hs p1.toNat p2)) := by show _ = _; rw [HF.out]; simp only [stepR]; rw [if_neg bad]
        obtain ⟨k, rfl⟩ : ∃ k : Nat, p1 = (k : Int) := ⟨p1.toNat, by omega⟩
        rw [Int.toNat_natCast] at HN
        have t2' : decide (64 < (k : Int)) = false := decide_eq_false (by omega)
        have hk : k < 65 := by omega
        have hki : (k : Int) < 65 := by omega
        have cX := hY.at (CA_at64 _ (9 + k) (by omega) (by omega))
        have fX := hY.frozen (9 + k)
        clear bad HF
        generalize cellOf l hs (9 + k) = old at *
        go_upto_region 10 with fail
        go_region
        go_wp2_with fail
        go_roundw
        case rel =>
          have CC := chg_set wr C (9 + k) (.int .i64 p2)
          have hY2 := (hY.setN (9 + k) p2 .i64 (by omega) (by unfold ck; rw [if_neg (by omega)])).drew
          rw [CA_congr (cellOf_cup l hs k p2)] at hY2
          exact ⟨j + 1, cup hs k p2, by omega, by go_num, HN.out, fun t => (by unfold cup; split; exact hp2; exact hfs t), hY2, (hR.chg CC (by omega)).drew, ab_drew (ab_chg hw CC (by omega))⟩
        case measure => simp [intOf]; omega
theorem rtake_no (q : Option Addr) (g off n cap : Nat) (l : List Int) (w : World) (hn : l.length = n) (hb : n ≤ 5000) (hp : 0 < n → q = some ⟨g, off, none⟩) (hg : 0 < n → g < w.heap.size) (hr : IRow w g off l) (hfit : ∀ x ∈ l, Fit x) (h : NoT l) :
    Calls Try.prog 21 #[.slice q n cap] w fun e w' => e = .returned rNo ∧ Below w.heap.size w w' := by
  rcases h with h | ⟨h1, h2⟩ | ⟨ps, more, h1, h2⟩
  · exact rtake_head q g off n cap l w hn hb hp hg hr (.inl (by omega))
  · refine rtake_head q g off n cap l w hn hb hp hg hr (.inr ?_)
    rcases h2 with h2 | h2
    · exact .inl h2
    · exact .inr (.inr (by omega))
  · by_cases c : ps.length ≤ 65
    · obtain rfl := hp (by have := h1.len; omega)
      have := rtake_body g off n cap l ps more w hn hb (hg (by have := h1.len; omega)) hr h1 c hfit
      rwa [rt_none h2] at this
    · exact rtake_head q g off n cap l w hn hb hp hg hr (.inr (.inr (.inl (by rw [h1.nine]; omega))))
theorem rtake_yes (g off n cap : Nat) (l : List Int) (ps : List PV) (more : List Int) (nx : Nat) (h : Nat → Int) (w : World) (hn : l.length = n) (hb : n ≤ 5000) (hg : g < w.heap.size) (hr : IRow w g off l) (hp : Parts l ps more) (hfit : ∀ x ∈ l, Fit x) (hf : foldH ps = some (nx, h)) :
    Calls Try.prog 21 #[.slice (some ⟨g, off, none⟩) n cap] w fun e w' => e = .returned (.tuple #[.agg (CA (cellOf l h)), .int .i64 ((10 + 2 * ps.length : Nat) : Int)]) ∧ Below w.heap.size w w' := by
  have := rtake_body g off n cap l ps more w hn hb hg hr hp (pairs_65 hf) hfit
  rwa [rt_some hf] at this
end Go.Proofs.Ytnppdachbfcfkaa
