/-
  The document's cell that numbers begin with: estuaryref02.Take.
  Plain mathematics of estuaryref05.Decode: a note's numbers read without care.
  estuaryref05.at; rows beside blocks of another type; estuaryref05.Decode of what is no frame.
  estuaryref05.Decode of one frame.
-/
import Derived.Test.YtjbhicjnnghjjaaPk09
import Derived.Test.YtjbhicjnnghjjaaPk13
import Derived.Test.YtjbhicjnnghjjaaPk18
import Derived.Deep.CutRange
namespace Go.Proofs.Ytjbhicjnnghjjaa
open Go.RowKit
set_option linter.unusedVariables false

def rNo : Value := .tuple #[.agg (CA zc), .int .i64 0]
def rtR (l : List Int) (ps : List PV) : Value := match foldH ps with
  | some s => .tuple #[.agg (CA (cellOf l s.2)), .int .i64 ((10 + 2 * ps.length : Nat) : Int)]
  | none => rNo
theorem built_take5 (x0 x1 x2 x3 x4 x5 x6 x7 x8 : Int) : Try.prog.built 80 [(0, .int .i64 x0), (1, .agg #[.int .i64 x1, .int .u64 x2]), (2, .int .i64 x3), (3, .int .i64 x4), (4, .agg #[.int .i64 x5, .int .i64 x6, .int .i64 x7, .int .i64 x8])] =
    some (CA (takeC x0 x1 x2 x3 x4 x5 x6 x7 x8 zc)) := by kernel_rfl
theorem cellOf_cup (l : List Int) (h : Nat → Int) (p : Nat) (v : Int) : ∀ i, i < 74 → cup (cellOf l h) (9 + p) v i = cellOf l (cup h p v) i := by
  intro i hi
  unfold cup cellOf
  by_cases c : i < 9
  · rw [if_neg (by omega), if_pos c, if_pos c]
  · rw [if_neg c]
    show _ = if i < 9 then _ else (if i - 9 = p then v else h (i - 9))
    rw [if_neg c]
    by_cases d : i = 9 + p
    · rw [if_pos d, if_pos (by omega)]
    · rw [if_neg d, if_neg (by omega)]
theorem cellOf_wf2 {l : List Int} {h : Nat → Int} (hf : ∀ x ∈ l, Fit x) (hh : ∀ k, Fit (h k)) : Wf (cellOf l h) := by
  have hget : ∀ i, Fit (l.getD i 0) := fun i => by
    by_cases c : i < l.length
    · rw [List.getD_eq_getElem?_getD, List.getElem?_eq_getElem c]; exact hf _ (List.getElem_mem c)
    · rw [List.getD_eq_getElem?_getD, List.getElem?_eq_none (by omega)]; exact ⟨by simp, by simp⟩
  refine ⟨?_, fun i hi h2 => ?_⟩
  · unfold cellOf; rw [if_pos (by omega), if_pos rfl]; unfold uw; omega
  · unfold cellOf
    split
    · exact hget i
    · exact hh _
theorem rt_none {l : List Int} {ps : List PV} (h : foldH ps = none) : rtR l ps = rNo := by unfold rtR; rw [h]
theorem rt_some {l : List Int} {ps : List PV} {nx : Nat} {h : Nat → Int} (e : foldH ps = some (nx, h)) : rtR l ps = .tuple #[.agg (CA (cellOf l h)), .int .i64 ((10 + 2 * ps.length : Nat) : Int)] := by unfold rtR; rw [e]
theorem foldH_of_R {ps : List PV} (h : foldR ps = none) : foldH ps = none := by
  cases e : foldH ps with
  | none => rfl
  | some s => have := foldR_of_H ps s.1 s.2 e; rw [h] at this; cases this

set_option maxRecDepth 100000 in
set_option maxHeartbeats 1000000 in
/-- Refused by its head. -/
theorem rtake_head (q : Option Addr) (g off n cap : Nat) (l : List Int) (w : World) (hn : l.length = n) (hb : n ≤ 20000) (hp : 0 < n → q = some ⟨g, off, none⟩) (hg : 0 < n → g < w.heap.size) (hr : IRow w g off l) (h : n < 10 ∨ l.getD 9 0 < 0 ∨ 65 < l.getD 9 0 ∨ (n : Int) < 10 + 2 * l.getD 9 0) :
    Calls Try.prog 42 #[.slice q n cap] w fun e w' => e = .returned rNo ∧ Below w.heap.size w w' := by
  by_cases t0 : n < 10
  · have t0' : (n : Int) < 10 := by omega
    clear h hr
    go_enter Try.func42, Try.ntmps42
    go_wp2_with (first
      | (refine al_cell rfl rfl ?_; intro W1 e1 hR1 b1; clear e1)
      | (refine bd_zero rfl rfl ?_)
      | (refine st_cell rfl rfl hR1 rfl rfl ?_; intro W3 hR3 C3))
    exact bodyPost_ret (results_c2 rfl _ _ _ 80 _ (0, 0) _ _ rfl rfl hR3 Try.underlying80 rfl (info_cell _)) rfl ⟨rfl, ab_chg b1 C3 (Nat.le_refl _)⟩
  · obtain rfl := hp (by omega)
    have hg0 := hg (by omega)
    have c9 : ∀ W, Below w.heap.size w W → W.cell? ⟨g, off + 9, none⟩ = some (.int .i64 (l.getD 9 0)) := fun W hW => (hW.cell (p := ⟨g, off + 9, none⟩) hg0).trans (hr 9 _ (by rw [List.getD_eq_getElem?_getD, List.getElem?_eq_getElem (by omega)]; rfl))
    have t0' : decide ((n : Int) < 10) = false := decide_eq_false (by omega)
    have h9n : (9 : Int) < (n : Int) := by omega
    generalize l.getD 9 0 = y at *
    clear hr hp hg
    by_cases t1 : y < 0
    · clear h
      go_enter Try.func42, Try.ntmps42
      go_upto_region 1 with (refine al_cell rfl rfl ?_; intro W1 e1 hR1 b1; clear e1)
      have d9 := c9 _ b1
      go_wp2_with (first
        | (refine bd_zero rfl rfl ?_)
        | (refine st_cell rfl rfl hR1 rfl rfl ?_; intro W3 hR3 C3))
      exact bodyPost_ret (results_c2 rfl _ _ _ 80 _ (0, 0) _ _ rfl rfl hR3 Try.underlying80 rfl (info_cell _)) rfl ⟨rfl, ab_chg b1 C3 (Nat.le_refl _)⟩
    · have t1' : decide (y < 0) = false := decide_eq_false t1
      by_cases t2 : 65 < y
      · clear h
        go_enter Try.func42, Try.ntmps42
        go_upto_region 1 with (refine al_cell rfl rfl ?_; intro W1 e1 hR1 b1; clear e1)
        have d9 := c9 _ b1
        go_wp2_with (first
          | (refine bd_zero rfl rfl ?_)
          | (refine st_cell rfl rfl hR1 rfl rfl ?_; intro W3 hR3 C3))
        exact bodyPost_ret (results_c2 rfl _ _ _ 80 _ (0, 0) _ _ rfl rfl hR3 Try.underlying80 rfl (info_cell _)) rfl ⟨rfl, ab_chg b1 C3 (Nat.le_refl _)⟩
      · have t2' : decide (65 < y) = false := decide_eq_false t2
        have t3 : (n : Int) < 10 + 2 * y := by omega
        have y0 : 0 ≤ y := by omega
        have y1 : y ≤ 65 := by omega
        clear h
        go_enter Try.func42, Try.ntmps42
        go_upto_region 1 with (refine al_cell rfl rfl ?_; intro W1 e1 hR1 b1; clear e1)
        have d9 := c9 _ b1
        go_wp2_with (first
          | (refine bd_zero rfl rfl ?_)
          | (refine st_cell rfl rfl hR1 rfl rfl ?_; intro W3 hR3 C3))
        exact bodyPost_ret (results_c2 rfl _ _ _ 80 _ (0, 0) _ _ rfl rfl hR3 Try.underlying80 rfl (info_cell _)) rfl ⟨rfl, ab_chg b1 C3 (Nat.le_refl _)⟩

set_option maxRecDepth 100000 in
set_option maxHeartbeats 2000000 in
theorem rtake_body (g off n cap : Nat) (l : List Int) (ps : List PV) (more : List Int) (w : World) (hn : l.length = n) (hb : n ≤ 20000) (hg : g < w.heap.size) (hr : IRow w g off l) (hp : Parts l ps more) (h65 : ps.length ≤ 65) (hfit : ∀ x ∈ l, Fit x) :
    Calls Try.prog 42 #[.slice (some ⟨g, off, none⟩) n cap] w fun e w' => e = .returned (rtR l ps) ∧ Below w.heap.size w w' := by
  have hrest := hp.rest
  have h10 := hp.len
  have hlr := congrArg List.length hrest
  rw [List.length_drop, List.length_append, flatP_len, hn] at hlr
  have HC : Hid (CA (takeC (l.getD 0 0) (l.getD 1 0) (IntKind.u64.wrap (l.getD 2 0)) (l.getD 3 0) (l.getD 4 0) (l.getD 5 0) (l.getD 6 0) (l.getD 7 0) (l.getD 8 0) zc) = CA (cellOf l zc)) := CA_congr (takeC_cell l zc)
  have cl : ∀ i, i < 10 → ∀ W, Below w.heap.size w W → W.cell? ⟨g, off + i, none⟩ = some (.int .i64 (l.getD i 0)) := fun i hi W hW => (hW.cell (p := ⟨g, off + i, none⟩) hg).trans (hr i _ (by rw [List.getD_eq_getElem?_getD, List.getElem?_eq_getElem (by omega)]; rfl))
  have L9 := cl 9 (by omega)
  rw [hp.nine] at L9
  have hget2 : Fit (l.getD 2 0) := by rw [List.getD_eq_getElem?_getD, List.getElem?_eq_getElem (by omega)]; exact hfit _ (List.getElem_mem _)
  have HAG : Hid (∀ hs, foldR ps = some hs → (numsF (cellOf l hs) = l.take (10 + 2 * ps.length) → ∃ nx h, foldH ps = some (nx, h) ∧ ∀ i, i < 65 → h i = hs i) ∧ (∀ nx h, foldH ps = some (nx, h) → numsF (cellOf l hs) = l.take (10 + 2 * ps.length))) := fun hs e => again_iff hp e hget2.1 hget2.2
  have hfp : ∀ p ∈ ps, Fit p.2 := fun p hp' => hfit _ (List.mem_of_mem_drop (i := 10) (by rw [hrest]; exact List.mem_append_left _ (flatP_mem ps p hp')))
  have cp : ∀ j p, ps[j]? = some p → ∀ W, Below w.heap.size w W → W.cell? ⟨g, off + (10 + 2 * j), none⟩ = some (.int .i64 p.1) ∧ W.cell? ⟨g, off + (10 + 2 * j + 1), none⟩ = some (.int .i64 p.2) := fun j p hj W hW => by
    obtain ⟨x1, x2⟩ := flatP_at ps j p hj
    have e1 : l[10 + 2 * j]? = some p.1 := by rw [← List.getElem?_drop, hrest, List.getElem?_append_left (by have := (List.getElem?_eq_some_iff.1 x1).1; exact this)]; exact x1
    have e2 : l[10 + 2 * j + 1]? = some p.2 := by rw [Nat.add_assoc, ← List.getElem?_drop, hrest, List.getElem?_append_left (by have := (List.getElem?_eq_some_iff.1 x2).1; exact this)]; exact x2
    exact ⟨(hW.cell (p := ⟨g, off + (10 + 2 * j), none⟩) hg).trans (hr _ _ e1), (hW.cell (p := ⟨g, off + (10 + 2 * j + 1), none⟩) hg).trans (hr _ _ e2)⟩
  obtain ⟨m, hm⟩ : ∃ m, m = ps.length := ⟨_, rfl⟩
  have HM : Hid (ps.length = m) := hm.symm
  rw [← hm] at L9 hlr h65 HAG
  clear hm hrest
  have L0 := cl 0 (by omega)
  rw [Nat.add_zero] at L0
  have L1 := cl 1 (by omega)
  have L2 := cl 2 (by omega)
  have L3 := cl 3 (by omega)
  have L4 := cl 4 (by omega)
  have L5 := cl 5 (by omega)
  have L6 := cl 6 (by omega)
  have L7 := cl 7 (by omega)
  have L8 := cl 8 (by omega)
  have hlt : ∀ i x, l[i]? = some x → ∀ W, Below w.heap.size w W → W.cell? ⟨g, off + i, none⟩ = some (.int .i64 x) := fun i x hx W hW => (hW.cell (p := ⟨g, off + i, none⟩) hg).trans (hr i x hx)
  clear cl
  generalize l.getD 0 0 = y0 at *
  generalize l.getD 1 0 = y1 at *
  generalize l.getD 2 0 = y2 at *
  generalize l.getD 3 0 = y3 at *
  generalize l.getD 4 0 = y4 at *
  generalize l.getD 5 0 = y5 at *
  generalize l.getD 6 0 = y6 at *
  generalize l.getD 7 0 = y7 at *
  generalize l.getD 8 0 = y8 at *
  have t0 : decide ((n : Int) < 10) = false := decide_eq_false (by omega)
  have t2 : decide (65 < (m : Int)) = false := decide_eq_false (by omega)
  have t3 : decide ((n : Int) < 10 + 2 * (m : Int)) = false := decide_eq_false (by omega)
  have hmi : (m : Int) ≤ 65 := by omega
  have hj0 : 0 < n := by omega
  have hj1 : (1 : Int) < (n : Int) := by omega
  have hj2 : (2 : Int) < (n : Int) := by omega
  have hj3 : (3 : Int) < (n : Int) := by omega
  have hj4 : (4 : Int) < (n : Int) := by omega
  have hj5 : (5 : Int) < (n : Int) := by omega
  have hj6 : (6 : Int) < (n : Int) := by omega
  have hj7 : (7 : Int) < (n : Int) := by omega
  have hj8 : (8 : Int) < (n : Int) := by omega
  have hj9 : (9 : Int) < (n : Int) := by omega
  have HLR : Hid (n - 10 = 2 * m + more.length) := hlr
  have hnm : 10 + 2 * m ≤ n := by omega
  clear hlr hget2
  go_enter Try.func42, Try.ntmps42
  go_upto_region 1 with (refine al_cell rfl rfl ?_; intro W1 e1 hR1 b1; clear e1)
  have d9 := L9 _ b1
  go_upto_region 3 with fail
  refine wp_region_held_drew (S := fun w' => Blk w' w.heap.size (CA zc) 80 ∧ Below w.heap.size w w') (by kernel_rfl) ⟨hR1.drew, ab_drew b1⟩ (fun hHeld => ?_)
  refine takeH (i := 0) (some 35) rfl rfl (by kernel_rfl) (by kernel_rfl) (by kernel_rfl) (fun _ _ _ h => h) (by rfl) (fun w hSw => by (try dsimp only at hSw); go_simp; try rfl) hHeld ?_
  go_frame
  refine takeH (i := 1) (some 36) rfl rfl (by kernel_rfl) (by kernel_rfl) (by kernel_rfl) (fun _ _ _ h => h) (by rfl) (fun w hSw => by (try dsimp only at hSw); go_simp; try rfl) hHeld ?_
  go_frame
  refine takeH (i := 2) (some 37) rfl rfl (by kernel_rfl) (by kernel_rfl) (by kernel_rfl) (fun _ _ _ h => h) (by rfl) (fun w hSw => by (try dsimp only at hSw); have s1 := L0 _ hSw.2; go_simp; try rfl) hHeld ?_
  go_frame
  refine takeH (i := 3) (some 38) rfl rfl (by kernel_rfl) (by kernel_rfl) (by kernel_rfl) (fun _ _ _ h => h) (by rfl) (fun w hSw => by (try dsimp only at hSw); go_simp; try rfl) hHeld ?_
  go_frame
  refine takeH (i := 4) (some 39) rfl rfl (by kernel_rfl) (by kernel_rfl) (by kernel_rfl) (fun _ _ _ h => h) (by rfl) (fun w hSw => by (try dsimp only at hSw); go_simp; try rfl) hHeld ?_
  go_frame
  refine takeH (i := 5) (some 40) rfl rfl (by kernel_rfl) (by kernel_rfl) (by kernel_rfl) (fun _ _ _ h => h) (by rfl) (fun w hSw => by (try dsimp only at hSw); have s1 := L1 _ hSw.2; go_simp; try rfl) hHeld ?_
  go_frame
  refine takeH (i := 6) (some 41) rfl rfl (by kernel_rfl) (by kernel_rfl) (by kernel_rfl) (fun _ _ _ h => h) (by rfl) (fun w hSw => by (try dsimp only at hSw); go_simp; try rfl) hHeld ?_
  go_frame
  refine takeH (i := 7) (some 42) rfl rfl (by kernel_rfl) (by kernel_rfl) (by kernel_rfl) (fun _ _ _ h => h) (by rfl) (fun w hSw => by (try dsimp only at hSw); go_simp; try rfl) hHeld ?_
  go_frame
  refine takeH (i := 8) (some 43) rfl rfl (by kernel_rfl) (by kernel_rfl) (by kernel_rfl) (fun _ _ _ h => h) (by rfl) (fun w hSw => by (try dsimp only at hSw); have s1 := L2 _ hSw.2; go_simp; try rfl) hHeld ?_
  go_frame
  refine takeH (i := 9) (some 44) rfl rfl (by kernel_rfl) (by kernel_rfl) (by kernel_rfl) (fun _ _ _ h => h) (by rfl) (fun w hSw => by (try dsimp only at hSw); go_simp; try rfl) hHeld ?_
  go_frame
  refine takeH (i := 10) (some 45) rfl rfl (by kernel_rfl) (by kernel_rfl) (by kernel_rfl) (fun _ _ _ h => h) (by rfl) (fun w hSw => by (try dsimp only at hSw); go_simp; try rfl) hHeld ?_
  go_frame
  refine takeH (i := 11) (some 46) rfl rfl (by kernel_rfl) (by kernel_rfl) (by kernel_rfl) (fun _ _ _ h => h) (by rfl) (fun w hSw => by (try dsimp only at hSw); go_simp; try rfl) hHeld ?_
  go_frame
  refine takeH (i := 12) (some 47) rfl rfl (by kernel_rfl) (by kernel_rfl) (by kernel_rfl) (fun _ _ _ h => h) (by rfl) (fun w hSw => by (try dsimp only at hSw); go_simp; try rfl) hHeld ?_
  go_frame
  refine takeH (i := 13) (some 48) rfl rfl (by kernel_rfl) (by kernel_rfl) (by kernel_rfl) (fun _ _ _ h => h) (by rfl) (fun w hSw => by (try dsimp only at hSw); have s1 := L3 _ hSw.2; go_simp; try rfl) hHeld ?_
  go_frame
  refine takeH (i := 14) (some 49) rfl rfl (by kernel_rfl) (by kernel_rfl) (by kernel_rfl) (fun _ _ _ h => h) (by rfl) (fun w hSw => by (try dsimp only at hSw); go_simp; try rfl) hHeld ?_
  go_frame
  refine takeH (i := 15) (some 50) rfl rfl (by kernel_rfl) (by kernel_rfl) (by kernel_rfl) (fun _ _ _ h => h) (by rfl) (fun w hSw => by (try dsimp only at hSw); go_simp; try rfl) hHeld ?_
  go_frame
  refine takeH (i := 16) (some 51) rfl rfl (by kernel_rfl) (by kernel_rfl) (by kernel_rfl) (fun _ _ _ h => h) (by rfl) (fun w hSw => by (try dsimp only at hSw); have s1 := L4 _ hSw.2; go_simp; try rfl) hHeld ?_
  go_frame
  refine takeH (i := 17) (some 52) rfl rfl (by kernel_rfl) (by kernel_rfl) (by kernel_rfl) (fun _ _ _ h => h) (by rfl) (fun w hSw => by (try dsimp only at hSw); go_simp; try rfl) hHeld ?_
  go_frame
  refine takeH (i := 18) (some 53) rfl rfl (by kernel_rfl) (by kernel_rfl) (by kernel_rfl) (fun _ _ _ h => h) (by rfl) (fun w hSw => by (try dsimp only at hSw); go_simp; try rfl) hHeld ?_
  go_frame
  refine takeH (i := 19) (some 54) rfl rfl (by kernel_rfl) (by kernel_rfl) (by kernel_rfl) (fun _ _ _ h => h) (by rfl) (fun w hSw => by (try dsimp only at hSw); have s1 := L5 _ hSw.2; go_simp; try rfl) hHeld ?_
  go_frame
  refine takeH (i := 20) (some 55) rfl rfl (by kernel_rfl) (by kernel_rfl) (by kernel_rfl) (fun _ _ _ h => h) (by rfl) (fun w hSw => by (try dsimp only at hSw); go_simp; try rfl) hHeld ?_
  go_frame
  refine takeH (i := 21) (some 56) rfl rfl (by kernel_rfl) (by kernel_rfl) (by kernel_rfl) (fun _ _ _ h => h) (by rfl) (fun w hSw => by (try dsimp only at hSw); go_simp; try rfl) hHeld ?_
  go_frame
  refine takeH (i := 22) (some 57) rfl rfl (by kernel_rfl) (by kernel_rfl) (by kernel_rfl) (fun _ _ _ h => h) (by rfl) (fun w hSw => by (try dsimp only at hSw); have s1 := L6 _ hSw.2; go_simp; try rfl) hHeld ?_
  go_frame
  refine takeH (i := 23) (some 58) rfl rfl (by kernel_rfl) (by kernel_rfl) (by kernel_rfl) (fun _ _ _ h => h) (by rfl) (fun w hSw => by (try dsimp only at hSw); go_simp; try rfl) hHeld ?_
  go_frame
  refine takeH (i := 24) (some 59) rfl rfl (by kernel_rfl) (by kernel_rfl) (by kernel_rfl) (fun _ _ _ h => h) (by rfl) (fun w hSw => by (try dsimp only at hSw); go_simp; try rfl) hHeld ?_
  go_frame
  refine takeH (i := 25) (some 60) rfl rfl (by kernel_rfl) (by kernel_rfl) (by kernel_rfl) (fun _ _ _ h => h) (by rfl) (fun w hSw => by (try dsimp only at hSw); have s1 := L7 _ hSw.2; go_simp; try rfl) hHeld ?_
  go_frame
  refine takeH (i := 26) (some 61) rfl rfl (by kernel_rfl) (by kernel_rfl) (by kernel_rfl) (fun _ _ _ h => h) (by rfl) (fun w hSw => by (try dsimp only at hSw); go_simp; try rfl) hHeld ?_
  go_frame
  refine takeH (i := 27) (some 62) rfl rfl (by kernel_rfl) (by kernel_rfl) (by kernel_rfl) (fun _ _ _ h => h) (by rfl) (fun w hSw => by (try dsimp only at hSw); go_simp; try rfl) hHeld ?_
  go_frame
  refine takeH (i := 28) (some 63) rfl rfl (by kernel_rfl) (by kernel_rfl) (by kernel_rfl) (fun _ _ _ h => h) (by rfl) (fun w hSw => by (try dsimp only at hSw); have s1 := L8 _ hSw.2; go_simp; try rfl) hHeld ?_
  go_frame
  refine takeH (i := 29) (some 64) rfl rfl (by kernel_rfl) (by kernel_rfl) (by kernel_rfl) (fun _ _ _ h => h) (by rfl) (fun w hSw => by (try dsimp only at hSw); go_simp; try rfl) hHeld ?_
  go_frame
  refine takeH (i := 30) (some 65) rfl rfl (by kernel_rfl) (by kernel_rfl) (by kernel_rfl) (fun _ _ _ h => h) (by rfl) (fun w hSw => by (try dsimp only at hSw); exact bd_run rfl (built_take5 y0 y1 (IntKind.u64.wrap y2) y3 y4 y5 y6 y7 y8) (by simp only [List.map_toArray, List.map_cons, List.map_nil]; rfl) w) hHeld ?_
  go_frame
  refine wpAnyH_ready (rs := [31]) (by kernel_rfl) (by simp) (AllReadyH.cons rfl (fun K hK => ?_) AllReadyH.nil)
  rw [if_pos (by rfl)]
  refine alW (some 4) rfl rfl (CA zc) (zero_cell _) fun W5 hY5 b5 => ?_
  have hRl := hHeld.1.lt
  refine hK.out _ _ ⟨hHeld.1.keep b5, ab_trans hHeld.2 b5⟩ (fun hHeld => ?_)
  clear hK K b5
  go_frame
  refine wpAnyH_ready (rs := [32]) (by kernel_rfl) (by simp) (AllReadyH.cons rfl (fun K hK => ?_) AllReadyH.nil)
  rw [if_pos (by rfl)]
  refine stW none rfl rfl hY5 rfl rfl (info_cell _) (by rw [CA_size, CA_size]) (CA_one _) fun W6 hY6 C6 => ?_
  refine hK.out _ _ ⟨hHeld.1.chg C6 (by omega), ab_chg hHeld.2 C6 (by omega)⟩ (fun hHeld => ?_)
  clear hK K C6 hY5
  refine wpAnyH_done (by kernel_rfl) ?_ _
  go_frame
  rw [HC.out] at hY6
  obtain ⟨hR6, hw6⟩ := hHeld
  clear hR1 b1 d9 HC L0 L1 L2 L3 L4 L5 L6 L7 L8 hj0 hj1 hj2 hj3 hj4 hj5 hj6 hj7 hj8
  obtain ⟨C, hC⟩ : ∃ C, C = W1.drew.heap.size := ⟨_, rfl⟩
  rw [← hC] at hY6 hRl ⊢
  clear hC
  have d9 := L9 _ hw6
  go_wp2_with fail
  clear d9 L9
  go_loopw [6] (fun i wr => ∃ (j : Nat) (hs : Nat → Int), j ≤ m ∧ i = .int .i64 ((10 + 2 * j : Nat) : Int) ∧ foldR (ps.take j) = some hs ∧ (∀ k, Fit (hs k)) ∧ Blk wr C (CA (cellOf l hs)) 80 ∧ Blk wr w.heap.size (CA zc) 80 ∧ Below w.heap.size w wr) (fun i _ => 10 + 2 * m - (intOf i).toNat)
  case atStart => exact ⟨0, zc, by omega, rfl, rfl, fun _ => ⟨by simp [zc], by simp [zc]⟩, hY6, hR6, hw6⟩
  case round =>
    clear hY6 hR6 hw6
    obtain ⟨j, hs, hj, rfl, hf, hfs, hY, hR, hw⟩ := hrel
    by_cases cj : j = m
    · subst cj
      have HF : Hid (foldR ps = some hs) := by show _ = _; rw [← hf, List.take_of_length_le (by rw [HM.out]; omega)]
      clear cp hf
      have hwf := cellOf_wf2 hfit hfs
      have hnl := numsF_len (cellOf l hs)
      have hmm : ((10 + 2 * j : Nat) : Int) = 10 + 2 * (j : Int) := by omega
      rw [hmm]
      clear hmm
      go_upto_region 12 with (first
        | (refine ld_cell rfl rfl hY rfl ?_)
        | (go_at_call 56; refine (rnums_any _ _ hwf).mono ?_; rintro e W7 ⟨v, rfl, hown, hv, b7⟩))
      obtain ⟨_, q7, g7, cap7, rfl, hp7, hg7, _, hk7, hr7⟩ := own_irow hown
      have hY7 := hY.keep b7
      have hR7 := hR.keep b7
      have hw7 := ab_trans hw b7
      have HAA : Hid (_ ∧ _) := HAG.out hs HF.out
      clear hown hv hY hR hw b7 hwf hfs HAG
      generalize numsF (cellOf l hs) = A at *
      by_cases hl : A.length = 10 + 2 * j
      · have hb2 : ((A.length : Int) != 10 + 2 * (j : Int)) = false := by simp; omega
        obtain rfl := hp7 (by omega)
        have hg7' := hg7 (by omega)
        have HL : Hid (A.length = 10 + 2 * j) := hl
        have hAi : (A.length : Int) ≤ 140 := by omega
        have hAl : 10 + 2 * (j : Int) ≤ (A.length : Int) := by omega
        clear hl
        go_wp2_with fail
        go_loopw [8] (fun i wr => ∃ t : Nat, t ≤ 10 + 2 * j ∧ i = .int .i64 (t : Int) ∧ (∀ u, u < t → A[u]? = l[u]?) ∧ Below W7.heap.size W7 wr) (fun i _ => 10 + 2 * j - (intOf i).toNat)
        case atStart => exact ⟨0, by omega, rfl, fun u hu => absurd hu (by omega), Below.refl _ _⟩
        case round =>
          obtain ⟨t, ht, rfl, hs2, hb8⟩ := hrel
          have hY8 := hY7.keep hb8
          have hR8 := hR7.keep hb8
          have hw8 := ab_trans hw7 hb8
          by_cases ct : t = 10 + 2 * j
          · have HE : Hid (rtR l ps = .tuple #[.agg (CA (cellOf l hs)), .int .i64 (10 + 2 * (j : Int))]) := by
              have e : A = l.take (10 + 2 * j) := by
                apply List.ext_getElem?
                intro u
                by_cases c : u < 10 + 2 * j
                · rw [List.getElem?_take_of_lt c]; exact hs2 u (by omega)
                · rw [List.getElem?_eq_none (by rw [HL.out]; omega), List.getElem?_eq_none (by rw [List.length_take]; omega)]
              obtain ⟨nx, h, e1, e2⟩ := HAA.out.1 e
              show _ = _
              rw [rt_some e1, HM.out, CA_congr (c := cellOf l h) (d := cellOf l hs) (fun i hi => by unfold cellOf; split; rfl; exact e2 _ (by omega))]
              rfl
            have hti : (t : Int) = 10 + 2 * (j : Int) := by omega
            rw [hti]
            clear hs2 HAA hlt ct hti hr7
            go_wp2_with (first
              | (refine ld_cell rfl rfl hY8 rfl ?_)
              | (refine st_cell rfl rfl hR8 rfl rfl ?_; intro W9 hR9 C9))
            exact bodyPost_ret (results_c2 rfl _ _ _ 80 _ (0, 0) _ _ rfl rfl hR9 Try.underlying80 rfl (info_cell _)) rfl ⟨by rw [HE.out]; rfl, ab_chg hw8 C9 (by omega)⟩
          · have htA : t < A.length := by rw [HL.out]; omega
            obtain ⟨x, hx⟩ : ∃ x, A[t]? = some x := ⟨A[t], List.getElem?_eq_getElem htA⟩
            obtain ⟨y, hy⟩ : ∃ y, l[t]? = some y := ⟨l[t], List.getElem?_eq_getElem (by omega)⟩
            have d1 := (hb8.cell (p := ⟨g7, 0 + t, none⟩) hg7').trans (hr7 t x hx)
            rw [Nat.zero_add] at d1
            have d2 := hlt t y hy _ hw8
            have hti : (t : Int) < 10 + 2 * (j : Int) := by omega
            have htAi : (t : Int) < (A.length : Int) := by omega
            have htn : (t : Int) < (n : Int) := by omega
            by_cases e : x = y
            · subst e
              have HS : Hid (∀ u, u < t + 1 → A[u]? = l[u]?) := by
                intro u hu
                by_cases c : u = t
                · subst c; rw [hx, hy]
                · exact hs2 u (by omega)
              have hxx : (x != x) = false := by simp
              clear hs2 hlt hr7 hx hy HAA
              go_upto_region 17 with fail
              go_quiet (fail)
              go_wp2_with fail
              go_roundw
              case rel => exact ⟨t + 1, by omega, by go_num, HS.out, ab_drewN hb8 _⟩
              case measure => simp [intOf]; omega
            · have HR : Hid (rtR l ps = rNo) := by
                cases e3 : foldH ps with
                | none => exact rt_none e3
                | some s =>
                  have h3 := HAA.out.2 s.1 s.2 e3
                  rw [h3, List.getElem?_take_of_lt (by omega), hy] at hx
                  exact absurd (Option.some.inj hx).symm e
              have hxy : (x != y) = true := by simpa using e
              clear hs2 hlt hr7 hx hy HAA
              go_upto_region 17 with fail
              go_quiet (fail)
              have hR9 := hR8.keep (ab_drewN (Below.refl _ wr) nq)
              have hw9 := ab_drewN hw8 nq
              go_wp2_with (first
                | (refine bd_zero rfl rfl ?_)
                | (refine st_cell rfl rfl hR9 rfl rfl ?_; intro W9 hR9 C9))
              exact bodyPost_ret (results_c2 rfl _ _ _ 80 _ (0, 0) _ _ rfl rfl hR9 Try.underlying80 rfl (info_cell _)) rfl ⟨by rw [HR.out]; rfl, ab_chg hw9 C9 (by omega)⟩
      · have HR : Hid (rtR l ps = rNo) := by
          cases e : foldH ps with
          | none => exact rt_none e
          | some s =>
            have := HAA.out.2 s.1 s.2 e
            exact absurd (by rw [this, List.length_take]; omega) hl
        have hb2 : ((A.length : Int) != 10 + 2 * (j : Int)) = true := by simp; omega
        clear HAA
        go_wp2_with (first
          | (refine bd_zero rfl rfl ?_)
          | (refine st_cell rfl rfl hR7 rfl rfl ?_; intro W9 hR9 C9))
        exact bodyPost_ret (results_c2 rfl _ _ _ 80 _ (0, 0) _ _ rfl rfl hR9 Try.underlying80 rfl (info_cell _)) rfl ⟨by rw [HR.out]; rfl, ab_chg hw7 C9 (by omega)⟩
    · have hjl : j < ps.length := by rw [HM.out]; omega
      obtain ⟨p, hpj⟩ : ∃ p, ps[j]? = some p := ⟨ps[j], List.getElem?_eq_getElem hjl⟩
      obtain ⟨d1, d2⟩ := cp j p hpj _ hw
      have HF : Hid (foldR (ps.take (j + 1)) = stepR (some hs) p) := by show _ = _; rw [List.take_add_one, hpj, ← hf]; exact foldR_snoc _ _
      have hp2 := hfp p (List.mem_of_getElem? hpj)
      obtain ⟨p1, p2⟩ := p
      dsimp only at d1 d2 hp2
      have hji : 10 + 2 * (j : Int) < 10 + 2 * (m : Int) := by omega
      have hjn : 10 + 2 * (j : Int) < (n : Int) := by omega
      have hjn1 : 10 + 2 * (j : Int) + 1 < (n : Int) := by omega
      have hj65 : (j : Int) ≤ 65 := by omega
      have ec : ((10 + 2 * j : Nat) : Int) = 10 + 2 * (j : Int) := by omega
      rw [ec]
      clear ec cp hpj hf hjl
      by_cases bad : p1 < 0 ∨ 64 < p1
      · have HR : Hid (rtR l ps = rNo) := by
          have h1 : foldR (ps.take (j + 1)) = none := by rw [HF.out]; simp only [stepR]; rw [if_pos bad]
          have h2 := foldR_stuck (ps.take (j + 1)) (ps.drop (j + 1)) h1
          rw [List.take_append_drop] at h2
          exact rt_none (foldH_of_R h2)
        clear HF
        by_cases t1 : p1 < 0
        · clear bad
          go_wp2_with (first
            | (refine bd_zero rfl rfl ?_)
            | (refine st_cell rfl rfl hR rfl rfl ?_; intro W9 hR9 C9))
          exact bodyPost_ret (results_c2 rfl _ _ _ 80 _ (0, 0) _ _ rfl rfl hR9 Try.underlying80 rfl (info_cell _)) rfl ⟨by rw [HR.out]; rfl, ab_chg hw C9 (by omega)⟩
        · have t1' : decide (p1 < 0) = false := decide_eq_false t1
          have t2' : 64 < p1 := by omega
          clear bad t1
          go_wp2_with (first
            | (refine bd_zero rfl rfl ?_)
            | (refine st_cell rfl rfl hR rfl rfl ?_; intro W9 hR9 C9))
          exact bodyPost_ret (results_c2 rfl _ _ _ 80 _ (0, 0) _ _ rfl rfl hR9 Try.underlying80 rfl (info_cell _)) rfl ⟨by rw [HR.out]; rfl, ab_chg hw C9 (by omega)⟩
      · have HN : Hid (foldR (ps.take (j + 1)) = some (cup hs p1.toNat p2)) := by show _ = _; rw [HF.out]; simp only [stepR]; rw [if_neg bad]
        obtain ⟨k, rfl⟩ : ∃ k : Nat, p1 = (k : Int) := ⟨p1.toNat, by omega⟩
        rw [Int.toNat_natCast] at HN
        have t2' : decide (64 < (k : Int)) = false := decide_eq_false (by omega)
        have hk : k < 65 := by omega
        have hki : (k : Int) < 65 := by omega
        have cX := hY.at (CA_at64 _ (9 + k) (by omega) (by omega))
        have fX := hY.frozen (9 + k)
        clear bad HF
        generalize cellOf l hs (9 + k) = old at *
        go_upto_region 10 with fail
        go_region
        go_wp2_with fail
        go_roundw
        case rel =>
          have CC := chg_set wr C (9 + k) (.int .i64 p2)
          have hY2 := (hY.setN (9 + k) p2 .i64 (by omega) (by unfold ck; rw [if_neg (by omega)])).drew
          rw [CA_congr (cellOf_cup l hs k p2)] at hY2
          exact ⟨j + 1, cup hs k p2, by omega, by go_num, HN.out, fun t => (by unfold cup; split; exact hp2; exact hfs t), hY2, (hR.chg CC (by omega)).drew, ab_drew (ab_chg hw CC (by omega))⟩
        case measure => simp [intOf]; omega
theorem rtake_no (q : Option Addr) (g off n cap : Nat) (l : List Int) (w : World) (hn : l.length = n) (hb : n ≤ 20000) (hp : 0 < n → q = some ⟨g, off, none⟩) (hg : 0 < n → g < w.heap.size) (hr : IRow w g off l) (hfit : ∀ x ∈ l, Fit x) (h : NoT l) :
    Calls Try.prog 42 #[.slice q n cap] w fun e w' => e = .returned rNo ∧ Below w.heap.size w w' := by
  rcases h with h | ⟨h1, h2⟩ | ⟨ps, more, h1, h2⟩
  · exact rtake_head q g off n cap l w hn hb hp hg hr (.inl (by omega))
  · refine rtake_head q g off n cap l w hn hb hp hg hr (.inr ?_)
    rcases h2 with h2 | h2
    · exact .inl h2
    · exact .inr (.inr (by omega))
  · by_cases c : ps.length ≤ 65
    · obtain rfl := hp (by have := h1.len; omega)
      have := rtake_body g off n cap l ps more w hn hb (hg (by have := h1.len; omega)) hr h1 c hfit
      rwa [rt_none h2] at this
    · exact rtake_head q g off n cap l w hn hb hp hg hr (.inr (.inr (.inl (by rw [h1.nine]; omega))))
theorem rtake_yes (g off n cap : Nat) (l : List Int) (ps : List PV) (more : List Int) (nx : Nat) (h : Nat → Int) (w : World) (hn : l.length = n) (hb : n ≤ 20000) (hg : g < w.heap.size) (hr : IRow w g off l) (hp : Parts l ps more) (hfit : ∀ x ∈ l, Fit x) (hf : foldH ps = some (nx, h)) :
    Calls Try.prog 42 #[.slice (some ⟨g, off, none⟩) n cap] w fun e w' => e = .returned (.tuple #[.agg (CA (cellOf l h)), .int .i64 ((10 + 2 * ps.length : Nat) : Int)]) ∧ Below w.heap.size w w' := by
  have := rtake_body g off n cap l ps more w hn hb hg hr hp (pairs_65 hf) hfit
  rwa [rt_some hf] at this
end Go.Proofs.Ytjbhicjnnghjjaa
namespace Go.Proofs.Ytjbhicjnnghjjaa
set_option linter.unusedVariables false

/-- How many are read. -/
def cnt (x : Int) : Nat := if x < 0 then 0 else min x.toNat 100
theorem cnt_nat (n : Nat) (h : n ≤ 100) : cnt (n : Int) = n := by unfold cnt; rw [if_neg (by omega)]; omega
theorem cnt_le (x : Int) : cnt x ≤ 100 := by unfold cnt; split <;> omega
theorem cnt_lt {x : Int} {k : Nat} (h1 : (k : Int) < x) (h2 : k < 100) : k < cnt x := by unfold cnt; rw [if_neg (by omega)]; omega
theorem cnt_ge {x : Int} {k : Nat} (hk : k ≤ cnt x) (h : ¬ ((k : Int) < x ∧ k < 100)) : k = cnt x := by
  unfold cnt at *
  by_cases hx : x < 0
  · rw [if_pos hx] at *; omega
  · rw [if_neg hx] at *; omega
theorem cnt_in {x : Int} {k : Nat} (h : k < cnt x) : (k : Int) < x ∧ k < 100 := by unfold cnt at h; split at h <;> omega
def xsU (l : List Int) (m : Nat) : List Int := (List.range m).map fun j => l.getD (4 + j) 0
def c1 (l : List Int) : Nat := cnt (l.getD 3 0)
def i1 (l : List Int) : Nat := 4 + c1 l
def c2 (l : List Int) : Nat := cnt (l.getD (i1 l) 0)
def osK (l : List Int) (m : Nat) : List (Nat → Int) := opsL (l.drop (i1 l + 1)) m
def i2 (l : List Int) : Nat := i1 l + 1 + 5 * c2 l
def c3 (l : List Int) : Nat := cnt (l.getD (i2 l) 0)
def NoG (l : List Int) : Prop := ∀ N, WN N → GoodN N → numsN N ≠ l
def rdN (l : List Int) (es : List (Nat → Int)) : Nt := ⟨l.getD 0 0, l.getD 1 0, l.getD 2 0, xsU l (c1 l), osK l (c2 l), es⟩

theorem xsU_next (l : List Int) (m : Nat) : xsU l (m + 1) = xsU l m ++ [l.getD (4 + m) 0] := by unfold xsU; rw [List.range_succ, List.map_append]; rfl
theorem xsU_len (l : List Int) (m : Nat) : (xsU l m).length = m := by simp [xsU]
theorem opsL_next (l : List Int) (m : Nat) : opsL l (m + 1) = opsL l m ++ [opAt l m] := by unfold opsL; rw [List.range_succ, List.map_append]; rfl
theorem osK_next (l : List Int) (m : Nat) : osK l (m + 1) = osK l m ++ [opAt (l.drop (i1 l + 1)) m] := opsL_next _ _
theorem osK_len (l : List Int) (m : Nat) : (osK l m).length = m := opsL_len _ _
theorem opAt_drop (l : List Int) (d j i : Nat) : opAt (l.drop d) j i = l.getD (d + 5 * j + i) 0 := by
  unfold opAt
  rw [List.getD_eq_getElem?_getD, List.getElem?_drop, ← List.getD_eq_getElem?_getD, Nat.add_assoc]
theorem getD_fit {l : List Int} (h : In64 l) (i : Nat) : Fit (l.getD i 0) := by
  rw [List.getD_eq_getElem?_getD]
  cases hx : l[i]? with
  | none => exact ⟨by simp, by simp⟩
  | some x => exact h x (List.mem_of_getElem? hx)
theorem xsU_in {l : List Int} (h : In64 l) (m : Nat) : In64 (xsU l m) := by
  intro x hx
  obtain ⟨j, _, rfl⟩ := List.mem_map.1 hx
  exact getD_fit h _
theorem osK_in {l : List Int} (h : In64 l) (m : Nat) : ∀ o ∈ osK l m, WO o := by
  intro o ho i hi
  obtain ⟨j, _, rfl⟩ := List.mem_map.1 ho
  rw [opAt_drop]
  exact getD_fit h _
theorem rdN_wf {l : List Int} (h : In64 l) {es : List (Nat → Int)} (he : ∀ x ∈ es, WE x) : WN (rdN l es) := ⟨getD_fit h _, getD_fit h _, getD_fit h _, xsU_in h _, osK_in h _, he⟩

theorem getD_of_drop {l : List Int} {i : Nat} {a : Int} {r : List Int} (h : l.drop i = a :: r) : l.getD i 0 = a := by
  have := congrArg (·[0]?) h
  simp only [List.getElem?_drop, Nat.add_zero, List.getElem?_cons_zero] at this
  rw [List.getD_eq_getElem?_getD, this]; rfl
theorem drop_more {l : List Int} {i : Nat} {a : Int} {r : List Int} (h : l.drop i = a :: r) : l.drop (i + 1) = r := by
  have : l.drop (i + 1) = (l.drop i).drop 1 := by rw [List.drop_drop]
  rw [this, h]; rfl
theorem drop_part {l : List Int} {i n : Nat} {a r : List Int} (h : l.drop i = a ++ r) (hn : a.length = n) : l.drop (i + n) = r := by
  have : l.drop (i + n) = (l.drop i).drop n := by rw [List.drop_drop]
  rw [this, h, ← hn, List.drop_left]
/-- Of a note's numbers just the note is read. -/
theorem g_read {N : Nt} {l : List Int} (g : GoodN N) (h : numsN N = l) : l.getD 0 0 = N.k ∧ l.getD 1 0 = N.f ∧ l.getD 2 0 = N.t ∧ c1 l = N.ns.length ∧ xsU l (c1 l) = N.ns ∧ c2 l = N.os.length ∧ (osK l (c2 l)).flatMap opN = N.os.flatMap opN ∧ c3 l = N.es.length ∧ l.drop (i2 l + 1) = N.es.flatMap enN := by
  have hfit := fitK_le g.fit
  have h3 : l.getD 3 0 = (N.ns.length : Int) := by rw [← h]; rfl
  have d4 : l.drop 4 = N.ns ++ midN N.os N.es := by rw [← h]; rfl
  have e1 : c1 l = N.ns.length := by unfold c1; rw [h3]; exact cnt_nat _ (by omega)
  have d4n : l.drop (i1 l) = (N.os.length : Int) :: (N.os.flatMap opN ++ tailN N.es) := by unfold i1; exact drop_part d4 e1.symm
  have e2 : c2 l = N.os.length := by unfold c2; rw [getD_of_drop d4n]; exact cnt_nat _ (by omega)
  have d5 := drop_more d4n
  have hol : (N.os.flatMap opN).length = 5 * c2 l := by rw [ops_bytes, e2]
  have d6 : l.drop (i2 l) = (N.es.length : Int) :: N.es.flatMap enN := by unfold i2; exact drop_part d5 hol
  have e3 : c3 l = N.es.length := by unfold c3; rw [getD_of_drop d6]; exact cnt_nat _ (by omega)
  refine ⟨by rw [← h]; rfl, by rw [← h]; rfl, by rw [← h]; rfl, e1, ?_, e2, ?_, e3, drop_more d6⟩
  · apply List.ext_getElem?
    intro j
    by_cases hj : j < c1 l
    · have x1 : (N.ns ++ midN N.os N.es)[j]? = l[4 + j]? := by rw [← d4, List.getElem?_drop]
      rw [List.getElem?_append_left (by omega)] at x1
      have x2 : (xsU l (c1 l))[j]? = some (l.getD (4 + j) 0) := by simp [xsU, hj]
      rw [x2, List.getD_eq_getElem?_getD, ← x1, List.getElem?_eq_getElem (by omega)]; rfl
    · rw [List.getElem?_eq_none (by rw [xsU_len]; omega), List.getElem?_eq_none (by omega)]
  · unfold osK
    rw [opsL_take _ _ (by rw [d5, List.length_append]; omega), d5, ← hol, List.take_left]
theorem ents_eq : ∀ (done es : List (Nat → Int)) (rest : List Int), done.length = es.length → done.flatMap enN ++ rest = es.flatMap enN → done.flatMap enN = es.flatMap enN
  | [], [], rest, _, _ => rfl
  | [], e :: es, rest, h, _ => by simp at h
  | d :: done, [], rest, h, _ => by simp at h
  | d :: done, e :: es, rest, h, he => by
    rw [List.flatMap_cons, List.flatMap_cons, List.append_assoc] at he
    obtain ⟨x1, x2⟩ := enN_pre he
    rw [List.flatMap_cons, List.flatMap_cons, x1, ents_eq done es rest (by simpa using h) x2]
theorem g_end {N : Nt} {l : List Int} (g : GoodN N) (h : numsN N = l) {done : List (Nat → Int)} {rest : List Int} (hd : done.length = c3 l) (hr : l.drop (i2 l + 1) = done.flatMap enN ++ rest) : numsN (rdN l done) = l := by
  obtain ⟨x0, x1, x2, x3, x4, x5, x6, x7, x8⟩ := g_read g h
  have e := ents_eq done N.es rest (by omega) (by rw [← hr]; exact x8)
  have hon : (osK l (c2 l)).length = N.os.length := by rw [osK_len]; exact x5
  conv => rhs; rw [← h]
  unfold numsN midN tailN rdN
  simp only [x0, x1, x2, x4, x6, e, hon, hd, x7]
/-- Where there is no entry though one is told of, there is no note. -/
theorem g_none {l : List Int} {done : List (Nat → Int)} {rest : List Int} (hd : done.length < c3 l) (hr : l.drop (i2 l + 1) = done.flatMap enN ++ rest) (hno : NoE rest) : NoG l := by
  intro N hW g h
  obtain ⟨x0, x1, x2, x3, x4, x5, x6, x7, x8⟩ := g_read g h
  have h2 := ents_split done N.es rest (by omega) (by rw [← hr]; exact x8)
  have hlt : done.length < N.es.length := by omega
  rw [List.drop_eq_getElem_cons hlt, List.flatMap_cons] at h2
  exact noE_nums hno (hW.es _ (List.getElem_mem hlt)) _ h2
theorem noB_g {b : List Nat} {l : List Int} (h : nus (insB b) = some l) (hn : NoG l) : NoB b := fun N hW g e => hn N hW g (noB_l h hW g e)
/-- What the reading has come to is the note, or there is none. -/
theorem g_fin {b : List Nat} {l : List Int} (hl : nus (insB b) = some l) (hf : In64 l) {done : List (Nat → Int)} {rest : List Int} (he : ∀ x ∈ done, WE x) (hd : done.length = c3 l) (hr : l.drop (i2 l + 1) = done.flatMap enN ++ rest) (hbad : ¬ (GoodN (rdN l done) ∧ bysN (rdN l done) = b)) : NoB b := by
  intro N hW g e
  have hN := noB_l hl hW g e
  have hE := g_end g hN hd hr
  have hs := numsN_inj hW (rdN_wf hf he) (hN.trans hE.symm)
  refine hbad ⟨g.same hs, ?_⟩
  rw [← e]
  unfold bysN
  rw [hE, hN]
theorem step_e {l : List Int} {i : Nat} {done : List (Nat → Int)} {a b : Int} {r : List Int} {ps : List PV} {more : List Int} {nx : Nat} {h : Nat → Int} (hf : In64 l) (hi : l.drop i = a :: b :: r) (hp : Parts r ps more) (e : foldH ps = some (nx, h)) {j : Nat} (hj : l.drop j = done.flatMap enN ++ l.drop i) :
    l.drop (i + 2 + (10 + 2 * ps.length)) = more ∧ l.drop j = (done ++ [mkE a b (cellOf r h)]).flatMap enN ++ more ∧ WE (mkE a b (cellOf r h)) := by
  have hfi : In64 (a :: b :: r) := fun x hx => hf x (by rw [← hi] at hx; exact List.mem_of_mem_drop hx)
  have hb := ent_back hfi hp e
  have d2 : l.drop (i + 2) = r := drop_more (drop_more hi)
  refine ⟨?_, ?_, ent_wf hfi hp e⟩
  · have x1 : l.drop (i + 2 + (10 + 2 * ps.length)) = (r.drop 10).drop (2 * ps.length) := by rw [← d2, List.drop_drop, List.drop_drop]
    rw [x1, hp.rest]
    have : (flatP ps).length = 2 * ps.length := flatP_len ps
    rw [← this, List.drop_left]
  · rw [hj, hi, ← hb]
    simp
end Go.Proofs.Ytjbhicjnnghjjaa
namespace Go.Proofs.Ytjbhicjnnghjjaa
open Go.RowKit Go.Shelf
set_option linter.unusedVariables false

theorem rat_any (v : Value) (l : List Int) (w : World) (hv : Is w v l) (i : Nat) (I : Int) (hI : I = (i : Int)) :
    Calls Try.prog 41 #[v, .int .i64 I] w fun e w' => e = .returned (.int .i64 (l.getD i 0)) ∧ w' = w := by
  subst hI
  by_cases h : i < l.length
  · obtain ⟨q, cap, e⟩ := hv.form
    subst e
    obtain ⟨g, off, rfl, hg, hr⟩ := hv.at (by omega)
    have hx := hr i (l.getD i 0) (by rw [List.getD_eq_getElem?_getD, List.getElem?_eq_getElem h]; rfl)
    generalize l.getD i 0 = x at *
    have h1 : (i : Int) < ((l.length : Nat) : Int) := by omega
    have h2 : ¬ (i : Int) < 0 := by omega
    have h3 : ¬ ((l.length : Nat) : Int) ≤ (i : Int) := by omega
    have h4 : ¬ l.length ≤ i := by omega
    generalize l.length = n at *
    clear hr hv
    go_enter Try.func41, Try.ntmps41
    go_wp2_with fail
    go_ret
    exact ⟨rfl, rfl⟩
  · obtain ⟨q, cap, e⟩ := hv.form
    subst e
    have hx : l.getD i 0 = 0 := by rw [List.getD_eq_getElem?_getD, List.getElem?_eq_none (by omega)]; rfl
    rw [hx]
    have h2 : ¬ (i : Int) < 0 := by omega
    have h3 : ((l.length : Nat) : Int) ≤ (i : Int) := by omega
    have h4 : l.length ≤ i := by omega
    generalize l.length = n at *
    clear hv hx
    go_enter Try.func41, Try.ntmps41
    go_wp2_with fail
    go_ret
    exact ⟨rfl, rfl⟩
/-- A block beside an own row of another type. -/
theorem own_otherG {W : World} {base b n e size : Nat} {v : Value} {xs : List Value} {vs : Array Value} {t : TypeId} (h : W.ownsRow base e size v n xs) (hB : Blk W b vs t) (hn : t ≠ e) : v.ownBlock ≠ some b := by
  intro hv
  rcases h.2 with ⟨h2, _⟩ | ⟨g, cap, cur, h2, hb, hg, _⟩
  · rw [h2] at hv; cases hv
  · rw [h2] at hv
    have hv' : g = b := by simpa [Value.ownBlock] using hv
    subst hv'
    unfold Blk at hB
    rw [hg] at hB
    injection hB with hB
    injection hB with _ h2 _
    exact hn h2.symm
theorem own_chgO {W W' : World} {base b n e size : Nat} {v : Value} {xs : List Value} (h : W.ownsRow base e size v n xs) (hc : Chg b W W') (hn : v.ownBlock ≠ some b) : W'.ownsRow base e size v n xs := by
  refine ⟨h.1, ?_⟩
  rcases h.2 with h2 | ⟨g, cap, cur, rfl, hb, hg, h4⟩
  · exact .inl h2
  · exact .inr ⟨g, cap, cur, rfl, hb, Blk.chg hg hc (fun e => hn (by rw [e]; rfl)), h4⟩
theorem sep_types {W : World} {b1 b2 n1 n2 e1 e2 s1 s2 : Nat} {v1 v2 : Value} {x1 x2 : List Value} (h1 : W.ownsRow b1 e1 s1 v1 n1 x1) (h2 : W.ownsRow b2 e2 s2 v2 n2 x2) (hn : e1 ≠ e2) : Sep v1 v2 := by
  intro k hk hk2
  rcases h1.2 with ⟨h3, _⟩ | ⟨g, cap, cur, h3, hb, hg, _⟩
  · rw [h3] at hk; cases hk
  · rcases h2.2 with ⟨h4, _⟩ | ⟨g2, cap2, cur2, h4, hb2, hg2, _⟩
    · rw [h4] at hk2; cases hk2
    · rw [h3] at hk
      rw [h4] at hk2
      have e1' : g = k := by simpa [Value.ownBlock] using hk
      have e2' : g2 = k := by simpa [Value.ownBlock] using hk2
      subst e1'
      subst e2'
      rw [hg] at hg2
      injection hg2 with hg2
      injection hg2 with _ h5 _
      exact hn h5

/-- What estuaryref05.Decode answers. -/
def RcP (W : World) (base : Nat) (b : List Nat) (e : Ending) : Prop :=
  (¬ oneFr b ∧ e = .returned (.tuple #[.agg zNt, .int .i64 3])) ∨ (oneFr b ∧ NoB b ∧ e = .returned (.tuple #[.agg zNt, .int .i64 4])) ∨
  (oneFr b ∧ ∃ N vn vo ve, WN N ∧ GoodN N ∧ bysN N = b ∧ e = .returned (.tuple #[ntV N vn vo ve, .int .i64 0]) ∧ Io W base vn N.ns ∧ SO 73 5 k64 W base vo N.os ∧ SO 82 76 ek W base ve N.es)

set_option maxHeartbeats 1000000 in
set_option maxRecDepth 100000 in
theorem rdecode_frame (v : Value) (b : List Nat) (w : World) (hv : Sl w v b) (hb : Byt b) (hl : b.length ≤ 100000) (hno : ¬ oneFr b) :
    Calls Try.prog 20 #[v] w fun e w' => RcP w' w.heap.size b e ∧ Below w.heap.size w w' := by
  have HE : Hid (∀ W, RcP W w.heap.size b (.returned (.tuple #[.agg zNt, .int .i64 3]))) := fun W => .inl ⟨hno, rfl⟩
  have hA := ab_alloc (Below.refl w.heap.size w) (.cells zNt 26)
  have hR := Blk.new w zNt 26
  have HU := fun W h => runwrap_any v b W h hb hl
  cases hok : insOK b with
  | false =>
    clear hno
    go_enter Try.func20, Try.ntmps20
    go_wp2_with (go_at_call 39; refine (HU _ (hv.keep hA)).mono ?_; rintro e W2 ⟨hup, b2⟩; obtain rfl := hup.no hok; clear hup; obtain ⟨y0, y1, y2, y3, y4, y5, f0, f1, f2, f3, f4, f5⟩ := six (hR.keep b2))
    obtain ⟨hR3, C3⟩ := blk_six (hR.keep b2) (.int .i64 0) (.int .i64 0) (.int .i64 0) (.slice none 0 0) (.slice none 0 0) (.slice none 0 0)
    exact bodyPost_ret (results_c2 rfl _ _ _ 26 _ (0, 0) _ (.int .i64 3) rfl rfl hR3 Try.underlying26 rfl (info_note _ _ _ _ _ _)) rfl ⟨HE.out _, ab_chg (ab_trans hA b2) C3 (Nat.le_refl _)⟩
  | true =>
    have hne : ¬ 8 + (insB b).length = b.length := fun e => hno ⟨hok, e⟩
    obtain ⟨q, cap, e, -⟩ := id hv
    subst e
    have e0 : (((8 + (insB b).length : Nat) : Int) == 0) = false := by simp; omega
    have e1 : (((8 + (insB b).length : Nat) : Int) != ((b.length : Nat) : Int)) = true := by simp; omega
    clear hno hne
    generalize hs : 8 + (insB b).length = sz at *
    generalize b.length = nb at *
    go_enter Try.func20, Try.ntmps20
    go_wp2_with (go_at_call 39; refine (HU _ (hv.keep hA)).mono ?_; rintro e W2 ⟨hup, b2⟩; obtain ⟨v2, he, O2⟩ := hup.ok hok; rw [hs] at he; subst he; clear hup; obtain ⟨y0, y1, y2, y3, y4, y5, f0, f1, f2, f3, f4, f5⟩ := six (hR.keep b2))
    obtain ⟨hR3, C3⟩ := blk_six (hR.keep b2) (.int .i64 0) (.int .i64 0) (.int .i64 0) (.slice none 0 0) (.slice none 0 0) (.slice none 0 0)
    exact bodyPost_ret (results_c2 rfl _ _ _ 26 _ (0, 0) _ (.int .i64 3) rfl rfl hR3 Try.underlying26 rfl (info_note _ _ _ _ _ _)) rfl ⟨HE.out _, ab_chg (ab_trans hA b2) C3 (Nat.le_refl _)⟩
end Go.Proofs.Ytjbhicjnnghjjaa
namespace Go.Proofs.Ytjbhicjnnghjjaa
open Go.RowKit Go.Shelf
set_option linter.unusedVariables false

abbrev nBlk (W : World) (B : Nat) (l : List Int) (vn vo ve : Value) : Prop := Blk W B #[.int .i64 (l.getD 0 0), .int .i64 (l.getD 1 0), .int .i64 (l.getD 2 0), vn, vo, ve] 26
theorem AG_set (k : Nat) (ks : Nat → IntKind) (c : Nat → Int) (i : Nat) (v : Int) : (AG k ks c).setIfInBounds i (.int (ks i) v) = AG k ks (fun j => if j = i then v else c j) := by
  rw [← Array.toList_inj, Array.toList_setIfInBounds]
  apply List.ext_getElem?
  intro j
  rw [List.getElem?_set]
  by_cases hj : j < k
  · rw [AG_at k ks (fun j => if j = i then v else c j) j hj]
    by_cases e : i = j
    · subst e
      rw [if_pos rfl, if_pos (by rw [AG_len]; exact hj)]
      simp
    · rw [if_neg e, AG_at k ks c j hj, if_neg (fun h => e h.symm)]
  · have h1 : (AG k ks c).toList[j]? = none := List.getElem?_eq_none (by rw [AG_len]; omega)
    have h2 : (AG k ks fun j => if j = i then v else c j).toList[j]? = none := List.getElem?_eq_none (by rw [AG_len]; omega)
    rw [h1, h2]
    by_cases e : i = j
    · rw [if_pos e, if_neg (by rw [AG_len]; omega)]
    · rw [if_neg e]
theorem blk_setL {b : Nat} {t : TypeId} : ∀ (cs : List Value) (o : Nat) (W : World) (vs : Array Value), Blk W b vs t → Blk (W.setCells b o cs) b (setL vs.toList o cs).toArray t ∧ Chg b W (W.setCells b o cs)
  | [], o, W, vs, h => ⟨by have e : (setL vs.toList o []).toArray = vs := (by simp [setL]); rw [e]; exact h, Chg.refl _ _⟩
  | c :: cs, o, W, vs, h => by
    have h1 := h.set o c
    obtain ⟨h2, h3⟩ := blk_setL cs (o + 1) _ _ h1
    refine ⟨?_, (chg_set _ _ _ _).trans h3⟩
    rw [Array.toList_setIfInBounds] at h2
    exact h2
set_option maxRecDepth 100000 in
theorem EA_split (e : Nat → Int) : (EA e).toList = [.int .i64 (e 0), .int .i64 (e 1)] ++ (CA (cE e)).toList := by kernel_rfl
theorem CA_len (c : Nat → Int) : (CA c).toList.length = 74 := by simp [CA]
/-- A cell into an entry. -/
theorem ent_put {W : World} {b : Nat} {t : TypeId} {e : Nat → Int} (h : Blk W b (EA e) t) (c : Nat → Int) : Blk (W.setCells b 2 (CA c).toList) b (EA (mkE (e 0) (e 1) c)) t ∧ Chg b W (W.setCells b 2 (CA c).toList) ∧ W.there b 2 (CA c).size := by
  obtain ⟨h1, h2⟩ := blk_setL (CA c).toList 2 W _ h
  have e1 : setL (EA e).toList 2 (CA c).toList = (EA (mkE (e 0) (e 1) c)).toList := by
    rw [EA_split, EA_split, cE_mkE]
    have := setL_mid (CA c).toList (CA (cE e)).toList [.int .i64 (e 0), .int .i64 (e 1)] [] (by rw [CA_len, CA_len])
    rw [List.append_nil, List.append_nil] at this
    exact this
  rw [e1] at h1
  refine ⟨h1, h2, fun j hj => ⟨?_, h.frozen _⟩⟩
  have hj' : j < 74 := by simpa [CA] using hj
  have := h.at (i := 2 + j) (v := .int (ek (2 + j)) (e (2 + j))) (by rw [← Array.getElem?_toList]; exact AG_at 76 ek e (2 + j) (by omega))
  rw [this]; rfl
theorem info_cellz (c : Nat → Int) : (Try.prog.info? 80).map (·.size) = some (CA c).size := by rw [show (CA c).size = 74 by simp [CA]]; kernel_rfl
theorem CA_all9 (c : Nat → Int) : (CA c).all (·.oneCell') = true := by
  rw [Array.all_eq_true']
  intro x hx
  simp [CA] at hx
  obtain ⟨i, _, rfl⟩ := hx
  rfl
theorem drop_two (l : List Int) (i : Nat) (h : i + 2 ≤ l.length) : l.drop i = l.getD i 0 :: l.getD (i + 1) 0 :: l.drop (i + 2) := by
  rw [List.drop_eq_getElem_cons (by omega), List.drop_eq_getElem_cons (i := i + 1) (by omega), List.getD_eq_getElem?_getD, List.getD_eq_getElem?_getD, List.getElem?_eq_getElem (by omega), List.getElem?_eq_getElem (by omega)]
  rfl
theorem rtk_no (v : Value) (r : List Int) (w : World) (hv : Is w v r) (hb : r.length ≤ 20000) (hf : In64 r) (h : NoT r) :
    Calls Try.prog 42 #[v] w fun e w' => e = .returned rNo ∧ Below w.heap.size w w' := by
  obtain ⟨q, cap, g, off, rfl, h1, h2, hp, hg, hr⟩ := hv
  exact rtake_no q g off _ cap r w rfl hb hp hg hr hf h
theorem rtk_yes (v : Value) (r : List Int) (ps : List PV) (more : List Int) (nx : Nat) (h : Nat → Int) (w : World) (hv : Is w v r) (hb : r.length ≤ 20000) (hf : In64 r) (hp : Parts r ps more) (hfh : foldH ps = some (nx, h)) :
    Calls Try.prog 42 #[v] w fun e w' => e = .returned (.tuple #[.agg (CA (cellOf r h)), .int .i64 ((10 + 2 * ps.length : Nat) : Int)]) ∧ Below w.heap.size w w' := by
  obtain ⟨q, cap, g, off, rfl, h1, h2, hpp, hg, hr⟩ := hv
  have h10 := hp.len
  obtain rfl := hpp (by omega)
  exact rtake_yes g off _ cap r ps more nx h w rfl hb (hg (by omega)) hr hp hf hfh
section
variable {ops : Array Oper} {rest : List Oper} {o : Oper} {a : Act} {w : World} {Q : Exit → Act → World → Prop}
theorem appsW {K : Act → World → Prop} (A : World) (d : Option Tmp) (hd : o.dst = d) {s x : Operand} {t e : TypeId} {k bytes : Nat} {ks : Nat → IntKind} (ho : o.op = .call { callee := .builtin .append, args := #[s, x], argTypes := #[t, t] })
    (hk : 0 < k) (ht : Try.prog.underlying t = some (.slice e)) (hinf : (Try.prog.info? e).map (fun i => (i.zero, i.size, i.bytes)) = some (some (.agg (AG k ks zc)), k, bytes))
    {v vx : Value} {l m : List (Nat → Int)} (hs : a.eval s = v) (hown : SO e k ks w A.heap.size v l) (hx : a.eval x = vx) (hsl : SR k ks w vx m) (h63 : l.length + m.length ≤ maxLen) (hbytes : (l.length + m.length) * bytes ≤ 140737488355328) (hA : Below A.heap.size A w)
    (h : ∀ v' w', SO e k ks w' A.heap.size v' (l ++ m) → Below A.heap.size A w' → w.grownBy w' v.ownBlock → K (a.put d v') w') : o.wp Try.prog a w K Q := by
  obtain ⟨q, cap, rfl, hq, hsrc⟩ := hsl.src hk
  refine appW A d hd ho ht hinf (by show (AG k ks zc).size = k; exact AG_size _ _ _) hk hs hown (flatA k ks m) hx hq (flatA_len k ks m) hsrc (flatA_one k ks m) h63 hbytes hA fun v' w' h1 h2 h3 h4 => ?_
  rw [flatA_append] at h1
  exact h v' w' (so_of h1 hk) h3 h4
theorem bso1 (e : Nat → Int) (w : World) : (Instr.buildSlice 23 1 #[(0, .agg (OA e))]).run Try.prog w = .ok (.slice (some ⟨w.heap.size, 0, none⟩) 1 1) (w.alloc (.cells (OA e) 73)) := by kernel_rfl
theorem so_newO (w : World) (e : Nat → Int) : SO 73 5 k64 (w.alloc (.cells (OA e) 73)) w.heap.size (.slice (some ⟨w.heap.size, 0, none⟩) 1 1) [e] := by
  have hf : flatA 5 k64 [e] = (OA e).toList := by simp [flatA]
  refine ⟨flatA_len 5 k64 [e], .inr ⟨w.heap.size, 1, OA e, rfl, Nat.le_refl _, by show (w.heap.push _)[w.heap.size]? = _; simp, by simp, by unfold maxLen; omega, ?_, ?_⟩⟩
  · simp [AG_size]
  · rw [hf]; exact List.take_of_length_le (by rw [AG_len]; simp)
theorem bs_o1W {K : Act → World → Prop} (d : Option Tmp) (hd : o.dst = d) {parts : Array (Nat × Operand)} (ho : o.op = .buildSlice 23 1 parts) (e : Nat → Int) (hl : parts.map (fun (i, x) => (i, a.eval x)) = #[(0, .agg (OA e))])
    (h : ∀ W', SO 73 5 k64 W' w.heap.size (.slice (some ⟨w.heap.size, 0, none⟩) 1 1) [e] → Below w.heap.size w W' → K (a.put d (.slice (some ⟨w.heap.size, 0, none⟩) 1 1)) W') : o.wp Try.prog a w K Q := by
  subst hd
  unfold Oper.wp execOp
  simp only [ho, Sem.run_bind, hl, bso1, Result.andThen_ok]
  exact h _ (so_newO w e) ((Below.refl _ _).alloc (Nat.le_refl _) _)
end
set_option maxHeartbeats 20000000 in
set_option maxRecDepth 100000 in
theorem rdecode_one (v : Value) (b : List Nat) (w : World) (hv : Sl w v b) (hb : Byt b) (hl : b.length ≤ 100000) (h1 : oneFr b) :
    Calls Try.prog 20 #[v] w fun e w' => RcP w' w.heap.size b e ∧ Below w.heap.size w w' := by
  have HE4 : Hid (NoB b → ∀ W, RcP W w.heap.size b (.returned (.tuple #[.agg zNt, .int .i64 4]))) := fun h W => .inr (.inl ⟨h1, h, rfl⟩)
  have HY : Hid (∀ W N vn vo ve, WN N → GoodN N → bysN N = b → Io W w.heap.size vn N.ns → SO 73 5 k64 W w.heap.size vo N.os → SO 82 76 ek W w.heap.size ve N.es → RcP W w.heap.size b (.returned (.tuple #[ntV N vn vo ve, .int .i64 0]))) := fun W N vn vo ve a1 a2 a3 a4 a5 a6 => .inr (.inr ⟨h1, N, vn, vo, ve, a1, a2, a3, rfl, a4, a5, a6⟩)
  have hA := ab_alloc (Below.refl w.heap.size w) (.cells zNt 26)
  have hR := Blk.new w zNt 26
  have HU := fun W h => runwrap_any v b W h hb hl
  have hok := h1.1
  have hbi : Byt (insB b) := by unfold insB; exact (hb.drop 8).take _
  have HNo1 : Hid (nus (insB b) = none → NoB b) := noB_nus
  have HNb := nus_back (insB b) hbi
  have hle := insB_le h1.1
  have HNR : Hid (∀ l, nus (insB b) = some l → numsR (insB b) (((insB b).length : Int) + 1) = some l) := fun l h => numsR_some h (.inr (by have := (HNb l h).2.2; omega))
  have HNR0 : Hid (nus (insB b) = none → numsR (insB b) (((insB b).length : Int) + 1) = none) := fun h => numsR_none h
  have HF : Hid (∀ l, nus (insB b) = some l → In64 l → ∀ (done : List (Nat → Int)) (rest : List Int), (∀ x ∈ done, WE x) → done.length = c3 l → l.drop (i2 l + 1) = done.flatMap enN ++ rest → ¬ (GoodN (rdN l done) ∧ bysN (rdN l done) = b) → NoB b) := fun l h1 h2 done rest a1 a2 a3 a4 => g_fin h1 h2 a1 a2 a3 a4
  have HG : Hid (∀ l, nus (insB b) = some l → NoG l → NoB b) := fun l h => noB_g h
  obtain ⟨q, cap, e, -⟩ := id hv
  subst e
  have hsz := h1.2
  generalize hI : insB b = I at *
  have hIl : I.length ≤ 16376 := by omega
  have e0 : (((8 + I.length : Nat) : Int) == 0) = false := by simp; omega
  have e1 : (((8 + I.length : Nat) : Int) != ((b.length : Nat) : Int)) = false := by rw [hsz]; simp
  have HB : Hid (Byt b) := hb
  generalize hs : 8 + I.length = sz at *
  generalize hnb : b.length = nb at *
  go_enter Try.func20, Try.ntmps20
  go_upto_region 4 with (go_at_call 39; refine (HU _ (hv.keep hA)).mono ?_; rintro e W2 ⟨hup, b2⟩; obtain ⟨v2, he, O2⟩ := hup.ok hok; rw [hI, hs] at he; subst he; clear hup)
  rw [hI] at O2
  have S2 := O2.sl
  obtain ⟨q2, c2', e2, -⟩ := id S2
  subst e2
  have hR2 := hR.keep b2
  have hw2 := ab_trans hA b2
  have sb2 := hv.keep hw2
  have HNu := fr_nums_any _ I ((I.length : Int) + 1) W2 S2 hbi (by omega)
  clear HU hR hA b2 O2 e0 e1
  cases hn : nus I with
  | none =>
    have HE : Hid (∀ W, RcP W w.heap.size b (.returned (.tuple #[.agg zNt, .int .i64 4]))) := HE4.out (HNo1.out hn)
    have HR0 := HNR0.out hn
    go_wp2_with (go_at_call 40; refine HNu.mono ?_; rintro e W3 ⟨hnp, b3⟩; obtain rfl := hnp.none HR0; clear hnp; obtain ⟨y0, y1, y2, y3, y4, y5, f0, f1, f2, f3, f4, f5⟩ := six (hR2.keep b3))
    obtain ⟨hR3, C3⟩ := blk_six (hR2.keep b3) (.int .i64 0) (.int .i64 0) (.int .i64 0) (.slice none 0 0) (.slice none 0 0) (.slice none 0 0)
    exact bodyPost_ret (results_c2 rfl _ _ _ 26 _ (0, 0) _ (.int .i64 4) rfl rfl hR3 Try.underlying26 rfl (info_note _ _ _ _ _ _)) rfl ⟨HE.out _, ab_chg (ab_trans hw2 b3) C3 (Nat.le_refl _)⟩
  | some l =>
    have HRs := HNR.out l hn
    obtain ⟨-, hf, hll⟩ := HNb l hn
    have HFin := HF.out l hn hf
    have HGn : Hid (NoG l → NoB b) := HG.out l hn
    have HFin' : Hid (∀ (done : List (Nat → Int)) (rest : List Int), (∀ x ∈ done, WE x) → done.length = c3 l → l.drop (i2 l + 1) = done.flatMap enN ++ rest → ¬ (GoodN (rdN l done) ∧ bysN (rdN l done) = b) → NoB b) := HFin
    have HIn : Hid (In64 l) := hf
    have HLl : Hid (l.length ≤ 16376) := by show _ ≤ _; omega
    clear HNo1 HNb HNR HNR0 HF HG HFin hn hf hll
    go_upto_region 8 with (go_at_call 40; refine HNu.mono ?_; rintro e W3 ⟨hnp, b3⟩; obtain ⟨vl, rfl, Ol⟩ := hnp.some l HRs; clear hnp)
    have hR3 := hR2.keep b3
    have hw3 := ab_trans hw2 b3
    have sb3 := sb2.keep b3
    have IL := Ol.is
    clear HNu hR2 hw2 b3 sb2 Ol S2 HRs hbi hv
    have HAT : Hid (∀ (i : Nat) (I x : Int) (W : World), I = (i : Int) → l.getD i 0 = x → Is W vl l → Calls Try.prog 41 #[vl, .int .i64 I] W fun e w' => e = .returned (.int .i64 x) ∧ W = w') := fun i I x W hI hx h => (rat_any vl l W h i I hI).mono fun e w' h2 => ⟨by rw [h2.1, hx], h2.2.symm⟩
    obtain ⟨K0, HK0⟩ : ∃ x, Hid (l.getD 0 0 = x) := ⟨_, rfl⟩
    obtain ⟨K1, HK1⟩ : ∃ x, Hid (l.getD 1 0 = x) := ⟨_, rfl⟩
    obtain ⟨K2, HK2⟩ : ∃ x, Hid (l.getD 2 0 = x) := ⟨_, rfl⟩
    obtain ⟨X3, HX3⟩ : ∃ x, Hid (l.getD 3 0 = x) := ⟨_, rfl⟩
    have HC1 : Hid (c1 l = cnt X3) := by show _ = _; unfold c1; rw [HX3.out]
    go_wp2_with fail
    refine (HAT.out 0 _ K0 _ rfl HK0.out IL).mono ?_
    rintro e _ ⟨rfl, rfl⟩
    go_wp2_with fail
    refine (HAT.out 1 _ K1 _ rfl HK1.out IL).mono ?_
    rintro e _ ⟨rfl, rfl⟩
    go_wp2_with fail
    refine (HAT.out 2 _ K2 _ rfl HK2.out IL).mono ?_
    rintro e _ ⟨rfl, rfl⟩
    go_wp2_with fail
    have hB5 := Blk.new W3 #[.int .i64 K0, .int .i64 K1, .int .i64 K2, .slice none 0 0, .slice none 0 0, .slice none 0 0] 26
    have hA5 := ab_alloc (Below.refl W3.heap.size W3) (.cells #[.int .i64 K0, .int .i64 K1, .int .i64 K2, .slice none 0 0, .slice none 0 0, .slice none 0 0] 26)
    generalize W3.alloc (.cells #[.int .i64 K0, .int .i64 K1, .int .i64 K2, .slice none 0 0, .slice none 0 0, .slice none 0 0] 26) = V5 at *
    have hwB : Hid (w.heap.size < W3.heap.size) := by have := hR3.lt; show _ < _; exact this
    go_loopw [10, 11] (fun i k wr => ∃ (kk ii : Nat) (vn : Value), kk ≤ c1 l ∧ k = .int .i64 (kk : Int) ∧ i = .int .i64 (ii : Int) ∧ ii = 4 + kk ∧ Io wr W3.heap.size vn (xsU l kk) ∧ Blk wr W3.heap.size #[.int .i64 K0, .int .i64 K1, .int .i64 K2, vn, .slice none 0 0, .slice none 0 0] 26 ∧ Below W3.heap.size W3 wr) (fun _ k _ => c1 l - (intOf k).toNat)
    case atStart => exact ⟨0, 4, .slice none 0 0, Nat.zero_le _, rfl, rfl, rfl, io_nil _ _, hB5, hA5⟩
    case round =>
      clear hB5 hA5
      obtain ⟨kk, ii, vn, hkk, rfl, rfl, hii, On, hBk, hbw⟩ := hrel
      have HII : Hid (ii = 4 + kk) := hii
      have hk100 : kk ≤ 100 := by have := cnt_le X3; have := HC1.out; omega
      have hi104 : ii ≤ 104 := by omega
      have HKK : Hid (kk ≤ c1 l) := hkk
      have ILr : Is wr vl l := IL.keep hbw
      clear hii hkk
      go_upto_region 11 with fail
      go_cut [61] from 54 to 61 (fun s wx => s = .bool (decide (kk < c1 l)) ∧ wx = wr)
      case first =>
        go_wp2_with fail
        refine (HAT.out 3 _ X3 _ rfl HX3.out ILr).mono ?_
        rintro e _ ⟨rfl, rfl⟩
        by_cases a1 : (kk : Int) < X3
        · by_cases a2 : kk < 100
          · have a2i : (kk : Int) < 100 := by omega
            have HD : Hid (decide (kk < c1 l) = true) := decide_eq_true (by rw [HC1.out]; exact cnt_lt a1 a2)
            go_wp2_with fail
            go_meet
            case rel => exact ⟨by rw [HD.out] <;> exact congrArg Value.bool (decide_eq_false (by omega)), rfl⟩
          · have a2i : ¬ (kk : Int) < 100 := by omega
            have HD : Hid (decide (kk < c1 l) = false) := decide_eq_false (by rw [HC1.out]; intro h; have := cnt_in h; omega)
            go_wp2_with fail
            go_meet
            case rel => exact ⟨by rw [HD.out] <;> exact congrArg Value.bool (decide_eq_false (by omega)), rfl⟩
        · have HD : Hid (decide (kk < c1 l) = false) := decide_eq_false (by rw [HC1.out]; intro h; have := cnt_in h; omega)
          go_wp2_with fail
          go_meet
          case rel => exact ⟨by rw [HD.out] <;> exact congrArg Value.bool (decide_eq_false (by omega)), rfl⟩
      case rest =>
        obtain ⟨rfl, rfl⟩ := hcut
        by_cases hlt : kk < c1 l
        · rw [decide_eq_true hlt]
          obtain ⟨x, HX⟩ : ∃ x, Hid (l.getD ii 0 = x) := ⟨_, rfl⟩
          have HT : Hid (xsU l (kk + 1) = xsU l kk ++ [x]) := by show _ = _; rw [xsU_next, ← HII.out, HX.out]
          have HLx : Hid ((xsU l kk).length ≤ 100) := by show _ ≤ _; rw [xsU_len]; exact hk100
          have HLT : Hid (kk < c1 l) := hlt
          clear hlt
          obtain ⟨qv, cv, ev⟩ := On.form
          have HEv : Hid (vn = .slice qv (xsU l kk).length cv) := ev
          clear ev
          go_upto_region 13 with fail
          refine region_L 8 (S := fun w' => Below W3.heap.size W3 w' ∧ Blk w' W3.heap.size #[.int .i64 K0, .int .i64 K1, .int .i64 K2, vn, .slice none 0 0, .slice none 0 0] 26) (by kernel_rfl) ⟨ab_drew hbw, hBk.drew⟩ (fun hHeld => ?_)
          refine takeL (i := 0) [1, 6, 8] (some 64) (by rfl) rfl rfl (by kernel_rfl) (by kernel_rfl) (by kernel_rfl) (by kernel_rfl) (fun _ _ _ h => h) (by rfl) (fun w hSw => by (try dsimp only at hSw); go_simp; try rfl) hHeld ?_
          go_frame
          refine takeL (i := 1) [6, 8] (some 65) (by rfl) rfl rfl (by kernel_rfl) (by kernel_rfl) (by kernel_rfl) (by kernel_rfl) (fun _ _ _ h => h) (by rfl) (fun w hSw => by (try dsimp only at hSw); (have hcc := (six hSw.2).c3; go_simp; try rfl)) hHeld ?_
          go_frame
          refine takeL (i := 2) [4, 5, 6, 8] (some 66) (by rfl) rfl rfl (by kernel_rfl) (by kernel_rfl) (by kernel_rfl) (by kernel_rfl) (fun _ _ _ h => h) (by rfl) (fun w hSw => by (try dsimp only at hSw); go_simp; try rfl) hHeld ?_
          go_frame
          refine takeL (i := 3) [4, 5, 6, 8] (some 67) (by rfl) rfl rfl (by kernel_rfl) (by kernel_rfl) (by kernel_rfl) (by kernel_rfl) (fun _ _ _ h => h) (by rfl) (fun w hSw => by (try dsimp only at hSw); go_simp; try rfl) hHeld ?_
          go_frame
          refine anyL_ready (rs := [4]) (by kernel_rfl) (by simp) (AllL.cons rfl (fun K hK => ?_) AllL.nil)
          go_simp
          refine (HAT.out ii _ x _ rfl HX.out (IL.keep hHeld.1)).mono ?_
          rintro e _ ⟨rfl, rfl⟩
          show K _ _
          refine hK.out _ _ hHeld (fun hHeld => ?_)
          clear hK K
          refine anyL_ready (rs := [5]) (by kernel_rfl) (by simp) (AllL.cons rfl (fun K hK => ?_) AllL.nil)
          rw [if_pos (by rfl)]
          refine bs_iW (some 69) rfl rfl [x] (by simp only [List.map_toArray, List.map_cons, List.map_nil]; rfl) (isl1 _ _) rfl (by decide) fun V3 hN3 b3 => ?_
          have bw3 := ab_trans hHeld.1 b3
          have hB3 := hHeld.2.keep b3
          have On3 := (On.keep (ab_drew (Below.refl _ _))).keep b3
          refine hK.out _ _ ⟨bw3, hB3⟩ (fun hHeld => ?_)
          clear hK K
          go_frame
          refine anyL_ready (rs := [6]) (by kernel_rfl) (by simp) (AllL.cons rfl (fun K hK => ?_) AllL.nil)
          rw [if_pos (by rfl)]
          refine appiW W3 (some 70) rfl rfl rfl On3 rfl (own_is hN3) (k := 1) rfl (by have := HLx.out; omega) bw3 ?_
          intro v4 V4 hown4 hnil4 b4 hgr4
          have hB4 := blk_grown hB3 hgr4 (own_otherG On3 hB3 (by decide))
          have O4 := io_of hown4
          have hno4 := own_otherG O4 hB4 (by decide)
          refine hK.out _ _ ⟨b4, hB4⟩ (fun hHeld => ?_)
          clear hK K
          go_frame
          refine takeL (i := 7) [8] (some 71) (by rfl) rfl rfl (by kernel_rfl) (by kernel_rfl) (by kernel_rfl) (by kernel_rfl) (fun _ _ _ h => h) (by rfl) (fun w hSw => by (try dsimp only at hSw); go_simp; try rfl) hHeld ?_
          go_frame
          obtain ⟨q4, c4, e4⟩ := O4.form
          rw [← HT.out] at O4 e4
          rw [xsU_len] at e4
          subst e4
          obtain ⟨-, -, -, p3, -, -, -, -, -, f3, -, -⟩ := six hB4
          refine anyL_ready (rs := [8]) (by kernel_rfl) (by simp) (AllL.last rfl (by kernel_rfl) (fun K hK => ?_))
          go_simp
          refine hK.out _ _ ?_
          clear hK K
          refine anyL_done (by kernel_rfl) ?_
          have C5 := chg_set V4 W3.heap.size 3 (.slice q4 (kk + 1) c4)
          have O5 : Io _ W3.heap.size _ (xsU l (kk + 1)) := own_chgO O4 C5 hno4
          have hB5 := hB4.set 3 (.slice q4 (kk + 1) c4)
          have bw5 := ab_chg b4 C5 (Nat.le_refl _)
          go_wp2_with fail
          exact ⟨⟨kk + 1, ii + 1, _, by have := HLT.out; omega, rfl, rfl, by have := HII.out; omega, O5, hB5, bw5⟩, by have := HLT.out; simp only [intOf]; omega⟩
        · rw [decide_eq_false hlt]
          obtain rfl : kk = c1 l := by have := HKK.out; omega
          have HI1 : Hid (ii = i1 l) := HII.out
          obtain ⟨X4, HX4⟩ : ∃ x, Hid (l.getD ii 0 = x) := ⟨_, rfl⟩
          have HC2 : Hid (c2 l = cnt X4) := by show _ = _; unfold c2; rw [← HI1.out, HX4.out]
          clear HX3 HC1 HKK HII hlt hk100
          go_wp2_with fail
          refine (HAT.out ii _ X4 _ rfl HX4.out ILr).mono ?_
          rintro e _ ⟨rfl, rfl⟩
          go_wp2_with fail
          go_loopw [10, 13] (fun i k wr => ∃ (kk jj : Nat) (vo : Value), kk ≤ c2 l ∧ k = .int .i64 (kk : Int) ∧ i = .int .i64 (jj : Int) ∧ jj = ii + 1 + 5 * kk ∧ SO 73 5 k64 wr W3.heap.size vo (osK l kk) ∧ Io wr W3.heap.size vn (xsU l (c1 l)) ∧ Blk wr W3.heap.size #[.int .i64 K0, .int .i64 K1, .int .i64 K2, vn, vo, .slice none 0 0] 26 ∧ Below W3.heap.size W3 wr) (fun _ k _ => c2 l - (intOf k).toNat)
          case atStart => exact ⟨0, ii + 1, .slice none 0 0, Nat.zero_le _, rfl, rfl, by omega, so_nil _ _ _ _ _, On, hBk, hbw⟩
          case round =>
            clear On hBk hbw ILr
            obtain ⟨kk, jj, vo, hkk, rfl, rfl, hjj, Oo, On, hBk, hbw⟩ := hrel
            have HJJ : Hid (jj = ii + 1 + 5 * kk) := hjj
            have hk100 : kk ≤ 100 := by have := cnt_le X4; have := HC2.out; omega
            have hj605 : jj ≤ 605 := by omega
            have HKK : Hid (kk ≤ c2 l) := hkk
            have ILr := IL.keep hbw
            clear hjj hkk
            go_upto_region 18 with fail
            go_cut [85] from 79 to 85 (fun s wx => s = .bool (decide (kk < c2 l)) ∧ wx = wr)
            case first =>
              by_cases a1 : (kk : Int) < X4
              · by_cases a2 : kk < 100
                · have a2i : (kk : Int) < 100 := by omega
                  have HD : Hid (decide (kk < c2 l) = true) := decide_eq_true (by rw [HC2.out]; exact cnt_lt a1 a2)
                  go_wp2_with fail
                  go_meet
                  case rel => exact ⟨by rw [HD.out] <;> exact congrArg Value.bool (decide_eq_false (by omega)), rfl⟩
                · have a2i : ¬ (kk : Int) < 100 := by omega
                  have HD : Hid (decide (kk < c2 l) = false) := decide_eq_false (by rw [HC2.out]; intro h; have := cnt_in h; omega)
                  go_wp2_with fail
                  go_meet
                  case rel => exact ⟨by rw [HD.out] <;> exact congrArg Value.bool (decide_eq_false (by omega)), rfl⟩
              · have HD : Hid (decide (kk < c2 l) = false) := decide_eq_false (by rw [HC2.out]; intro h; have := cnt_in h; omega)
                go_wp2_with fail
                go_meet
                case rel => exact ⟨by rw [HD.out] <;> exact congrArg Value.bool (decide_eq_false (by omega)), rfl⟩
            case rest =>
              obtain ⟨rfl, rfl⟩ := hcut
              by_cases hlt : kk < c2 l
              · rw [decide_eq_true hlt]
                obtain ⟨o, HO⟩ : ∃ o, Hid (opAt (l.drop (i1 l + 1)) kk = o) := ⟨_, rfl⟩
                have HOx : ∀ i, l.getD (jj + i) 0 = o i := fun i => by rw [← HO.out, opAt_drop, ← HI1.out, HJJ.out]
                have HO0 : Hid (l.getD jj 0 = o 0) := HOx 0
                have HO1 : Hid (l.getD (jj + 1) 0 = o 1) := HOx 1
                have HO2 : Hid (l.getD (jj + 2) 0 = o 2) := HOx 2
                have HO3 : Hid (l.getD (jj + 3) 0 = o 3) := HOx 3
                have HO4 : Hid (l.getD (jj + 4) 0 = o 4) := HOx 4
                have HT : Hid (osK l (kk + 1) = osK l kk ++ [o]) := by show _ = _; rw [osK_next, HO.out]
                have HLx : Hid ((osK l kk).length ≤ 100) := by show _ ≤ _; rw [osK_len]; exact hk100
                have HLT : Hid (kk < c2 l) := hlt
                have w1 : IntKind.i64.wrap ((jj : Int) + 1) = (jj : Int) + 1 := by simp [IntKind.wrap, IntKind.signed, IntKind.bits] <;> omega
                have w2 : IntKind.i64.wrap ((jj : Int) + 2) = (jj : Int) + 2 := by simp [IntKind.wrap, IntKind.signed, IntKind.bits] <;> omega
                have w3 : IntKind.i64.wrap ((jj : Int) + 3) = (jj : Int) + 3 := by simp [IntKind.wrap, IntKind.signed, IntKind.bits] <;> omega
                have w4 : IntKind.i64.wrap ((jj : Int) + 4) = (jj : Int) + 4 := by simp [IntKind.wrap, IntKind.signed, IntKind.bits] <;> omega
                clear hlt HOx HO
                go_upto_region 20 with fail
                refine region_L 25 (S := fun w' => Below W3.heap.size W3 w' ∧ Blk w' W3.heap.size #[.int .i64 K0, .int .i64 K1, .int .i64 K2, vn, vo, .slice none 0 0] 26) (by kernel_rfl) ⟨ab_drew hbw, hBk.drew⟩ (fun hHeld => ?_)
                refine takeL (i := 0) [1, 23, 25] (some 88) (by rfl) rfl rfl (by kernel_rfl) (by kernel_rfl) (by kernel_rfl) (by kernel_rfl) (fun _ _ _ h => h) (by rfl) (fun w hSw => by (try dsimp only at hSw); go_simp; try rfl) hHeld ?_
                go_frame
                refine takeL (i := 1) [23, 25] (some 89) (by rfl) rfl rfl (by kernel_rfl) (by kernel_rfl) (by kernel_rfl) (by kernel_rfl) (fun _ _ _ h => h) (by rfl) (fun w hSw => by (try dsimp only at hSw); (have hcc := (six hSw.2).c4; go_simp; try rfl)) hHeld ?_
                go_frame
                refine takeL (i := 2) [4, 21, 22, 23, 25] (some 90) (by rfl) rfl rfl (by kernel_rfl) (by kernel_rfl) (by kernel_rfl) (by kernel_rfl) (fun _ _ _ h => h) (by rfl) (fun w hSw => by (try dsimp only at hSw); go_simp; try rfl) hHeld ?_
                go_frame
                refine takeL (i := 3) [4, 21, 22, 23, 25] (some 91) (by rfl) rfl rfl (by kernel_rfl) (by kernel_rfl) (by kernel_rfl) (by kernel_rfl) (fun _ _ _ h => h) (by rfl) (fun w hSw => by (try dsimp only at hSw); go_simp; try rfl) hHeld ?_
                go_frame
                refine takeL (i := 5) [8, 21, 22, 23, 25] (some 93) (by rfl) rfl rfl (by kernel_rfl) (by kernel_rfl) (by kernel_rfl) (by kernel_rfl) (fun _ _ _ h => h) (by rfl) (fun w hSw => by (try dsimp only at hSw); go_simp; try rfl) hHeld ?_
                go_frame
                refine takeL (i := 6) [7, 8, 21, 22, 23, 25] (some 94) (by rfl) rfl rfl (by kernel_rfl) (by kernel_rfl) (by kernel_rfl) (by kernel_rfl) (fun _ _ _ h => h) (by rfl) (fun w hSw => by (try dsimp only at hSw); go_simp; try rfl) hHeld ?_
                go_frame
                refine takeL (i := 7) [8, 21, 22, 23, 25] (some 95) (by rfl) rfl rfl (by kernel_rfl) (by kernel_rfl) (by kernel_rfl) (by kernel_rfl) (fun _ _ _ h => h) (by rfl) (fun w hSw => by (try dsimp only at hSw); go_simp; try rfl) hHeld ?_
                go_frame
                refine takeL (i := 9) [12, 21, 22, 23, 25] (some 97) (by rfl) rfl rfl (by kernel_rfl) (by kernel_rfl) (by kernel_rfl) (by kernel_rfl) (fun _ _ _ h => h) (by rfl) (fun w hSw => by (try dsimp only at hSw); go_simp; try rfl) hHeld ?_
                go_frame
                refine takeL (i := 10) [11, 12, 21, 22, 23, 25] (some 98) (by rfl) rfl rfl (by kernel_rfl) (by kernel_rfl) (by kernel_rfl) (by kernel_rfl) (fun _ _ _ h => h) (by rfl) (fun w hSw => by (try dsimp only at hSw); go_simp; try rfl) hHeld ?_
                go_frame
                refine takeL (i := 11) [12, 21, 22, 23, 25] (some 99) (by rfl) rfl rfl (by kernel_rfl) (by kernel_rfl) (by kernel_rfl) (by kernel_rfl) (fun _ _ _ h => h) (by rfl) (fun w hSw => by (try dsimp only at hSw); go_simp; try rfl) hHeld ?_
                go_frame
                refine takeL (i := 13) [16, 21, 22, 23, 25] (some 101) (by rfl) rfl rfl (by kernel_rfl) (by kernel_rfl) (by kernel_rfl) (by kernel_rfl) (fun _ _ _ h => h) (by rfl) (fun w hSw => by (try dsimp only at hSw); go_simp; try rfl) hHeld ?_
                go_frame
                refine takeL (i := 14) [15, 16, 21, 22, 23, 25] (some 102) (by rfl) rfl rfl (by kernel_rfl) (by kernel_rfl) (by kernel_rfl) (by kernel_rfl) (fun _ _ _ h => h) (by rfl) (fun w hSw => by (try dsimp only at hSw); go_simp; try rfl) hHeld ?_
                go_frame
                refine takeL (i := 15) [16, 21, 22, 23, 25] (some 103) (by rfl) rfl rfl (by kernel_rfl) (by kernel_rfl) (by kernel_rfl) (by kernel_rfl) (fun _ _ _ h => h) (by rfl) (fun w hSw => by (try dsimp only at hSw); go_simp; try rfl) hHeld ?_
                go_frame
                refine takeL (i := 17) [20, 21, 22, 23, 25] (some 105) (by rfl) rfl rfl (by kernel_rfl) (by kernel_rfl) (by kernel_rfl) (by kernel_rfl) (fun _ _ _ h => h) (by rfl) (fun w hSw => by (try dsimp only at hSw); go_simp; try rfl) hHeld ?_
                go_frame
                refine takeL (i := 18) [19, 20, 21, 22, 23, 25] (some 106) (by rfl) rfl rfl (by kernel_rfl) (by kernel_rfl) (by kernel_rfl) (by kernel_rfl) (fun _ _ _ h => h) (by rfl) (fun w hSw => by (try dsimp only at hSw); go_simp; try rfl) hHeld ?_
                go_frame
                refine takeL (i := 19) [20, 21, 22, 23, 25] (some 107) (by rfl) rfl rfl (by kernel_rfl) (by kernel_rfl) (by kernel_rfl) (by kernel_rfl) (fun _ _ _ h => h) (by rfl) (fun w hSw => by (try dsimp only at hSw); go_simp; try rfl) hHeld ?_
                go_frame
                refine anyL_ready (rs := [4]) (by kernel_rfl) (by simp) (AllL.cons rfl (fun K hK => ?_) AllL.nil)
                go_simp
                refine (HAT.out jj _ (o 0) _ rfl HO0.out (IL.keep hHeld.1)).mono ?_
                rintro e _ ⟨rfl, rfl⟩
                show K _ _
                refine hK.out _ _ hHeld (fun hHeld => ?_)
                clear hK K
                refine anyL_ready (rs := [8]) (by kernel_rfl) (by simp) (AllL.cons rfl (fun K hK => ?_) AllL.nil)
                go_simp
                refine (HAT.out (jj + 1) _ (o 1) _ rfl HO1.out (IL.keep hHeld.1)).mono ?_
                rintro e _ ⟨rfl, rfl⟩
                show K _ _
                refine hK.out _ _ hHeld (fun hHeld => ?_)
                clear hK K
                refine anyL_ready (rs := [12]) (by kernel_rfl) (by simp) (AllL.cons rfl (fun K hK => ?_) AllL.nil)
                go_simp
                refine (HAT.out (jj + 2) _ (o 2) _ rfl HO2.out (IL.keep hHeld.1)).mono ?_
                rintro e _ ⟨rfl, rfl⟩
                show K _ _
                refine hK.out _ _ hHeld (fun hHeld => ?_)
                clear hK K
                refine anyL_ready (rs := [16]) (by kernel_rfl) (by simp) (AllL.cons rfl (fun K hK => ?_) AllL.nil)
                go_simp
                refine (HAT.out (jj + 3) _ (o 3) _ rfl HO3.out (IL.keep hHeld.1)).mono ?_
                rintro e _ ⟨rfl, rfl⟩
                show K _ _
                refine hK.out _ _ hHeld (fun hHeld => ?_)
                clear hK K
                refine anyL_ready (rs := [20]) (by kernel_rfl) (by simp) (AllL.cons rfl (fun K hK => ?_) AllL.nil)
                go_simp
                refine (HAT.out (jj + 4) _ (o 4) _ rfl HO4.out (IL.keep hHeld.1)).mono ?_
                rintro e _ ⟨rfl, rfl⟩
                show K _ _
                refine hK.out _ _ hHeld (fun hHeld => ?_)
                clear hK K
                refine takeL (i := 21) [22, 23, 25] (some 109) (by rfl) rfl rfl (by kernel_rfl) (by kernel_rfl) (by kernel_rfl) (by kernel_rfl) (fun _ _ _ h => h) (by rfl) (fun w hSw => by (try dsimp only at hSw); (refine (?_ : _ = Result.ok (Next.value (Value.agg (OA o))) _); go_simp; try rfl)) hHeld ?_
                go_frame
                refine anyL_ready (rs := [22]) (by kernel_rfl) (by simp) (AllL.cons rfl (fun K hK => ?_) AllL.nil)
                rw [if_pos (by rfl)]
                refine bs_o1W (some 110) rfl rfl o (by simp only [List.map_toArray, List.map_cons, List.map_nil]; rfl) fun V3 hN3 b3 => ?_
                have bw3 := ab_trans hHeld.1 b3
                have hB3 := hHeld.2.keep b3
                have Oo3 := (Oo.keep (ab_drew (Below.refl _ _))).keep b3
                have On3 := (On.keep (ab_drew (Below.refl _ _))).keep b3
                refine hK.out _ _ ⟨bw3, hB3⟩ (fun hHeld => ?_)
                clear hK K
                go_frame
                refine anyL_ready (rs := [23]) (by kernel_rfl) (by simp) (AllL.cons rfl (fun K hK => ?_) AllL.nil)
                rw [if_pos (by rfl)]
                refine appsW W3 (some 111) rfl rfl (by omega) Try.underlying23 infoOp rfl Oo3 rfl (hN3.sr (by omega)) (by have := HLx.out; simp; unfold maxLen; omega) (by have := HLx.out; simp; omega) bw3 ?_
                intro v4 V4 O4 b4 hgr4
                have hB4 := blk_grown hB3 hgr4 (own_otherG Oo3 hB3 (by decide))
                have On4 := On3.kept hgr4 (sep_types On3 Oo3 (by decide))
                have hno4 := own_otherG O4 hB4 (by decide)
                have hnn4 := own_otherG On4 hB4 (by decide)
                refine hK.out _ _ ⟨b4, hB4⟩ (fun hHeld => ?_)
                clear hK K
                go_frame
                refine takeL (i := 24) [25] (some 112) (by rfl) rfl rfl (by kernel_rfl) (by kernel_rfl) (by kernel_rfl) (by kernel_rfl) (fun _ _ _ h => h) (by rfl) (fun w hSw => by (try dsimp only at hSw); go_simp; try rfl) hHeld ?_
                go_frame
                rw [← HT.out] at O4
                obtain ⟨q4, c4, e4⟩ := O4.form (by omega)
                rw [osK_len] at e4
                subst e4
                obtain ⟨-, -, -, -, p4, -, -, -, -, -, f4, -⟩ := six hB4
                refine anyL_ready (rs := [25]) (by kernel_rfl) (by simp) (AllL.last rfl (by kernel_rfl) (fun K hK => ?_))
                go_simp
                refine hK.out _ _ ?_
                clear hK K
                refine anyL_done (by kernel_rfl) ?_
                have C5 := chg_set V4 W3.heap.size 4 (.slice q4 (kk + 1) c4)
                have O5 : SO 73 5 k64 _ W3.heap.size _ (osK l (kk + 1)) := own_chgO O4 C5 hno4
                have On5 : Io _ W3.heap.size _ (xsU l (c1 l)) := own_chgO On4 C5 hnn4
                have hB5 := hB4.set 4 (.slice q4 (kk + 1) c4)
                have bw5 := ab_chg b4 C5 (Nat.le_refl _)
                go_wp2_with fail
                exact ⟨⟨kk + 1, jj + 5, _, by have := HLT.out; omega, rfl, rfl, by have := HJJ.out; omega, O5, On5, hB5, bw5⟩, by have := HLT.out; simp only [intOf]; omega⟩
              · rw [decide_eq_false hlt]
                obtain rfl : kk = c2 l := by have := HKK.out; omega
                have HI2 : Hid (jj = i2 l) := by show _ = _; unfold i2; rw [← HI1.out]; exact HJJ.out
                obtain ⟨X5, HX5⟩ : ∃ x, Hid (l.getD jj 0 = x) := ⟨_, rfl⟩
                have HC3 : Hid (c3 l = cnt X5) := by show _ = _; unfold c3; rw [← HI2.out, HX5.out]
                clear HX4 HC2 HKK HJJ hlt hk100 HI1
                go_wp2_with fail
                refine (HAT.out jj _ X5 _ rfl HX5.out ILr).mono ?_
                rintro e _ ⟨rfl, rfl⟩
                go_wp2_with fail
                go_loopw [10, 15] (fun i k wr => ∃ (done : List (Nat → Int)) (kk ii3 : Nat) (ve : Value), done.length = kk ∧ kk ≤ c3 l ∧ k = .int .i64 (kk : Int) ∧ i = .int .i64 (ii3 : Int) ∧ l.drop (i2 l + 1) = done.flatMap enN ++ l.drop ii3 ∧ ii3 ≤ 606 + 142 * kk ∧ (∀ x ∈ done, WE x) ∧ SO 82 76 ek wr W3.heap.size ve done ∧ SO 73 5 k64 wr W3.heap.size vo (osK l (c2 l)) ∧ Io wr W3.heap.size vn (xsU l (c1 l)) ∧ Blk wr W3.heap.size #[.int .i64 K0, .int .i64 K1, .int .i64 K2, vn, vo, ve] 26 ∧ Below W3.heap.size W3 wr) (fun _ k _ => c3 l - (intOf k).toNat)
                case atStart => exact ⟨[], 0, jj + 1, .slice none 0 0, rfl, Nat.zero_le _, rfl, rfl, by rw [← HI2.out]; simp, by omega, fun x hx => by simp at hx, so_nil _ _ _ _ _, Oo, On, hBk, hbw⟩
                case round =>
                  clear Oo On hBk hbw ILr
                  obtain ⟨done, kk, ii3, ve, hdl, hkk, rfl, rfl, hdr, hib, hwd, Oe, Oo, On, hBk, hbw⟩ := hrel
                  have HDL : Hid (done.length = kk) := hdl
                  have HDR : Hid (l.drop (i2 l + 1) = done.flatMap enN ++ l.drop ii3) := hdr
                  have HWd : Hid (∀ x ∈ done, WE x) := hwd
                  have HKK : Hid (kk ≤ c3 l) := hkk
                  have hk100 : kk ≤ 100 := by have := cnt_le X5; have := HC3.out; omega
                  have HIB : Hid (ii3 ≤ 606 + 142 * kk) := hib
                  have hi15 : ii3 ≤ 14806 := by omega
                  have ILr := IL.keep hbw
                  clear hdl hdr hwd hkk hib
                  go_upto_region 25 with fail
                  go_cut [126] from 120 to 126 (fun s wx => s = .bool (decide (kk < c3 l)) ∧ wx = wr)
                  case first =>
                    by_cases a1 : (kk : Int) < X5
                    · by_cases a2 : kk < 100
                      · have a2i : (kk : Int) < 100 := by omega
                        have HD : Hid (decide (kk < c3 l) = true) := decide_eq_true (by rw [HC3.out]; exact cnt_lt a1 a2)
                        go_wp2_with fail
                        go_meet
                        case rel => exact ⟨by rw [HD.out] <;> exact congrArg Value.bool (decide_eq_false (by omega)), rfl⟩
                      · have a2i : ¬ (kk : Int) < 100 := by omega
                        have HD : Hid (decide (kk < c3 l) = false) := decide_eq_false (by rw [HC3.out]; intro h; have := cnt_in h; omega)
                        go_wp2_with fail
                        go_meet
                        case rel => exact ⟨by rw [HD.out] <;> exact congrArg Value.bool (decide_eq_false (by omega)), rfl⟩
                    · have HD : Hid (decide (kk < c3 l) = false) := decide_eq_false (by rw [HC3.out]; intro h; have := cnt_in h; omega)
                      go_wp2_with fail
                      go_meet
                      case rel => exact ⟨by rw [HD.out] <;> exact congrArg Value.bool (decide_eq_false (by omega)), rfl⟩
                  case rest =>
                    obtain ⟨rfl, rfl⟩ := hcut
                    by_cases hlt : kk < c3 l
                    · rw [decide_eq_true hlt]
                      have HLT : Hid (kk < c3 l) := hlt
                      clear hlt
                      have HNG : Hid (NoE (l.drop ii3) → NoB b) := fun h => HGn.out (g_none (by rw [HDL.out]; exact HLT.out) HDR.out h)
                      obtain ⟨A0, HA0⟩ : ∃ x, Hid (l.getD ii3 0 = x) := ⟨_, rfl⟩
                      obtain ⟨A1, HA1⟩ : ∃ x, Hid (l.getD (ii3 + 1) 0 = x) := ⟨_, rfl⟩
                      go_upto_region 28 with (first
                        | (refine al_ent rfl rfl ?_; intro W6 e6 hE6 b6; clear e6)
                        | (refine st_ent (c := zc) rfl rfl hE6 rfl (congrArg Value.agg zc_ent) ?_; intro W7 hE7 C7))
                      have b7 := ab_chg b6 C7 (Nat.le_refl _)
                      have Oe7 := Oe.keep b7
                      have Oo7 := Oo.keep b7
                      have On7 := On.keep b7
                      have hB7 := hBk.keep b7
                      have bw7 := ab_trans hbw b7
                      have IL7 := ILr.keep b7
                      have hBE : wc.heap.size ≠ W3.heap.size := by have := hBk.lt; omega
                      have hBE2 : W3.heap.size ≤ wc.heap.size := hbw.size
                      have hve : ve.ownBlock ≠ some wc.heap.size := fun e => by have := (World.ownsRow.lt Oe _ e).2; omega
                      have hvo : vo.ownBlock ≠ some wc.heap.size := fun e => by have := (World.ownsRow.lt Oo _ e).2; omega
                      have hvn : vn.ownBlock ≠ some wc.heap.size := fun e => by have := (World.ownsRow.lt On _ e).2; omega
                      clear Oe Oo On hBk hbw ILr b6 C7 hE6 b7
                      obtain ⟨ql, cl, el⟩ := IL.form
                      subst el
                      generalize wc.heap.size = BE at *
                      generalize hnl : l.length = nl at *
                      have p0 : W7.cell? ⟨BE, 0, none⟩ = some (.int .i64 0) := hE7.at rfl
                      have f0 := hE7.frozen 0
                      go_upto_region 29 with (go_at_call 41; refine (HAT.out ii3 _ A0 _ rfl HA0.out IL7).mono ?_; rintro e _ ⟨rfl, rfl⟩)
                      have C8 := chg_set W7 BE 0 (.int .i64 A0)
                      have hE8 := hE7.set 0 (.int (ek 0) A0)
                      rw [AG_set] at hE8
                      have Oe8 := own_chgO Oe7 C8 hve
                      have Oo8 := own_chgO Oo7 C8 hvo
                      have On8 := own_chgO On7 C8 hvn
                      have hB8 := hB7.chg C8 (Ne.symm hBE)
                      have bw8 := ab_chg bw7 C8 hBE2
                      have hE8' : Blk (W7.setCell ⟨BE, 0, none⟩ (.int .i64 A0)) BE (EA fun j => if j = 0 then A0 else zc j) 82 := hE8
                      clear p0 f0 hE7 Oe7 Oo7 On7 hB7 bw7 IL7 C8 hE8
                      generalize W7.setCell ⟨BE, 0, none⟩ (.int .i64 A0) = V8 at *
                      have IL8 := IL.keep bw8
                      have p1 : V8.cell? ⟨BE, 1, none⟩ = some (.int .i64 0) := hE8'.at rfl
                      have f1 := hE8'.frozen 1
                      go_upto_region 30 with (go_at_call 41; refine (HAT.out (ii3 + 1) _ A1 _ rfl HA1.out IL8).mono ?_; rintro e _ ⟨rfl, rfl⟩)
                      have C9 := chg_set V8 BE 1 (.int .i64 A1)
                      have hE9 := hE8'.set 1 (.int (ek 1) A1)
                      rw [AG_set] at hE9
                      have Oe9 := own_chgO Oe8 C9 hve
                      have Oo9 := own_chgO Oo8 C9 hvo
                      have On9 := own_chgO On8 C9 hvn
                      have hB9 := hB8.chg C9 (Ne.symm hBE)
                      have bw9 := ab_chg bw8 C9 hBE2
                      obtain ⟨e9, he9, h90, h91⟩ : ∃ e9 : Nat → Int, (fun j => if j = 1 then A1 else if j = 0 then A0 else zc j) = e9 ∧ e9 0 = A0 ∧ e9 1 = A1 := ⟨_, rfl, by simp, by simp⟩
                      rw [he9] at hE9
                      have hE9' : Blk (V8.setCell ⟨BE, 1, none⟩ (.int .i64 A1)) BE (EA e9) 82 := hE9
                      clear p1 f1 hE8' Oe8 Oo8 On8 hB8 bw8 IL8 C9 hE9 he9
                      generalize V8.setCell ⟨BE, 1, none⟩ (.int .i64 A1) = V9 at *
                      by_cases hs : nl < ii3 + 2
                      · have hsi : (nl : Int) < (ii3 : Int) + 2 := by omega
                        have HE : Hid (∀ W, RcP W w.heap.size b (.returned (.tuple #[.agg zNt, .int .i64 4]))) := HE4.out (HNG.out (.inl (by rw [List.length_drop]; omega)))
                        obtain ⟨y0, y1, y2, y3, y4, y5, f0, f1, f2, f3, f4, f5⟩ := six (hR3.keep bw9)
                        go_wp2_with fail
                        obtain ⟨hR9, C9⟩ := blk_six (hR3.keep bw9) (.int .i64 0) (.int .i64 0) (.int .i64 0) (.slice none 0 0) (.slice none 0 0) (.slice none 0 0)
                        exact bodyPost_ret (results_c2 rfl _ _ _ 26 _ (0, 0) _ (.int .i64 4) rfl rfl hR9 Try.underlying26 rfl (info_note _ _ _ _ _ _)) rfl ⟨HE.out _, ab_chg (ab_trans hw3 bw9) C9 (Nat.le_refl _)⟩
                      · have hsi : ¬ (nl : Int) < (ii3 : Int) + 2 := by omega
                        have HR20 : Hid ((l.drop (ii3 + 2)).length ≤ 20000) := by show _ ≤ _; rw [List.length_drop]; have := HLl.out; omega
                        have HFr : Hid (In64 (l.drop (ii3 + 2))) := fun x hx => HIn.out x (List.mem_of_mem_drop hx)
                        have HNs : Hid (ii3 + 2 ≤ nl) := by show _ ≤ _; omega
                        have w2 : IntKind.i64.wrap ((ii3 : Int) + 2) = (ii3 : Int) + 2 := by simp [IntKind.wrap, IntKind.signed, IntKind.bits] <;> omega
                        clear hs
                        go_upto_region 32 with fail
                        clear hsi
                        rcases take_cases (l.drop (ii3 + 2)) with hno | ⟨ps, more, nx, h, hp, hfh⟩
                        · have HNo : Hid (NoT (l.drop (ii3 + 2))) := hno
                          have HNB : Hid (NoB b) := HNG.out (.inr (by rw [List.drop_drop]; exact hno))
                          clear hno
                          go_upto_region 33 with (first
                            | (refine sli_l W3 rfl rfl (ii3 + 2) rfl rfl rfl HNs.out IL ?_; intro q5 i5)
                            | (go_at_call 42; refine (rtk_no _ _ _ (i5.keep bw9) HR20.out HFr.out HNo.out).mono ?_; rintro e WA ⟨he, bA⟩; unfold rNo at he; subst he)
                            | (refine al_cell rfl rfl ?_; intro WB eB hCB bB; clear eB)
                            | (refine st_cell rfl rfl hCB rfl rfl ?_; intro WC hCC CC))
                          have bwC := ab_trans bw9 (ab_trans bA (ab_chg bB CC (Nat.le_refl _)))
                          have HE : Hid (∀ W, RcP W w.heap.size b (.returned (.tuple #[.agg zNt, .int .i64 4]))) := HE4.out (HNB.out)
                          obtain ⟨y0, y1, y2, y3, y4, y5, f0, f1, f2, f3, f4, f5⟩ := six (hR3.keep bwC)
                          go_wp2_with fail
                          obtain ⟨hR9, C9⟩ := blk_six (hR3.keep bwC) (.int .i64 0) (.int .i64 0) (.int .i64 0) (.slice none 0 0) (.slice none 0 0) (.slice none 0 0)
                          exact bodyPost_ret (results_c2 rfl _ _ _ 26 _ (0, 0) _ (.int .i64 4) rfl rfl hR9 Try.underlying26 rfl (info_note _ _ _ _ _ _)) rfl ⟨HE.out _, ab_chg (ab_trans hw3 bwC) C9 (Nat.le_refl _)⟩
                        · have HiA : Hid (l.drop ii3 = A0 :: A1 :: l.drop (ii3 + 2)) := by show _ = _; rw [drop_two l ii3 (by rw [hnl]; exact HNs.out), HA0.out, HA1.out]
                          have hst := step_e HIn.out HiA.out hp hfh HDR.out
                          obtain ⟨c, hc⟩ : ∃ c, cellOf (l.drop (ii3 + 2)) h = c := ⟨_, rfl⟩
                          obtain ⟨U, hU⟩ : ∃ U, 10 + 2 * ps.length = U := ⟨_, rfl⟩
                          rw [hc, hU] at hst
                          have h65 := pairs_65 hfh
                          have hU140 : U ≤ 140 := by omega
                          have hU0 : ((U : Int) == 0) = false := by simp; omega
                          have HTk : Hid (∀ W u, Is W u (l.drop (ii3 + 2)) → Calls Try.prog 42 #[u] W fun e w' => e = .returned (.tuple #[.agg (CA c), .int .i64 (U : Int)]) ∧ Below W.heap.size W w') := fun W u hu => by
                            have := rtk_yes u (l.drop (ii3 + 2)) ps more nx h W hu HR20.out HFr.out hp hfh
                            rw [hc, hU] at this
                            exact this
                          have HSt : Hid (l.drop (ii3 + 2 + U) = more ∧ l.drop (i2 l + 1) = (done ++ [mkE A0 A1 c]).flatMap enN ++ more ∧ WE (mkE A0 A1 c)) := hst
                          clear hst hp hfh hc hU h65 HiA
                          go_upto_region 35 with (first
                            | (refine sli_l W3 rfl rfl (ii3 + 2) rfl rfl rfl HNs.out IL ?_; intro q5 i5)
                            | (go_at_call 42; refine (HTk.out _ _ (i5.keep bw9)).mono ?_; rintro e WA ⟨rfl, bA⟩)
                            | (refine al_cell rfl rfl ?_; intro WB eB hCB bB; clear eB)
                            | (refine st_cell rfl rfl hCB rfl rfl ?_; intro WC hCC CC))
                          have bC := ab_trans bA (ab_chg bB CC (Nat.le_refl _))
                          have bwC := ab_trans bw9 bC
                          have OeC := own_keep Oe9 bC
                          have OoC := own_keep Oo9 bC
                          have OnC := own_keep On9 bC
                          have hBC := hB9.keep bC
                          obtain ⟨hED, CD, hth⟩ := ent_put (hE9'.keep bC) c
                          rw [h90, h91] at hED
                          clear bA bB CC hCB bC Oe9 Oo9 On9 hB9 hE9' bw9 i5
                          go_upto_region 36 with (first
                            | (refine ld_cell rfl rfl hCC rfl ?_)
                            | (refine wpList_store_mid rfl 80 _ _ rfl BE 2 (CA c) rfl rfl hth (info_cellz c) (CA_all9 c) ?_))
                          simp only [Act.put]
                          have OeD := own_chgO OeC CD hve
                          have OoD := own_chgO OoC CD hvo
                          have OnD := own_chgO OnC CD hvn
                          have hBD := hBC.chg CD (Ne.symm hBE)
                          have bwD := ab_chg bwC CD hBE2
                          clear OeC OoC OnC hBC bwC CD hth hCC
                          generalize WC.setCells BE 2 (CA c).toList = VD at *
                          have HE9 : Hid (WE (mkE A0 A1 c)) := HSt.out.2.2
                          generalize mkE A0 A1 c = E at *
                          obtain ⟨qy, cy, ey⟩ := SO.form (show SO 82 76 ek VD W3.heap.size ve done from OeD) (by omega)
                          rw [HDL.out] at ey
                          subst ey
                          have p5 := (six hBD).c5
                          have hrD := blk_range hED
                          go_cut [] from 162 to 167 (fun wx => ∃ (q6 : Option Addr) (c6 : Nat), SO 82 76 ek wx W3.heap.size (.slice q6 (kk + 1) c6) (done ++ [E]) ∧ SO 73 5 k64 wx W3.heap.size vo (osK l (c2 l)) ∧ Io wx W3.heap.size vn (xsU l (c1 l)) ∧ Blk wx W3.heap.size #[.int .i64 K0, .int .i64 K1, .int .i64 K2, vn, vo, .slice q6 (kk + 1) c6] 26 ∧ Below W3.heap.size W3 wx)
                          case first =>
                            refine wp_region_lit ?_
                            refine valS rfl (.pointer (some ⟨W3.heap.size, 5, none⟩)) (by first | rfl | (go_simp; try rfl)) ?_
                            simp only [Act.put, List.setIfInBounds_toArray, List.set_cons_succ, List.set_cons_zero]
                            refine valS rfl (.slice qy kk cy) (by go_simp; try rfl) ?_
                            simp only [Act.put, List.setIfInBounds_toArray, List.set_cons_succ, List.set_cons_zero]
                            refine ld_ent rfl rfl hrD rfl ?_
                            simp only [Act.put, List.setIfInBounds_toArray, List.set_cons_succ, List.set_cons_zero]
                            refine bs_e1 rfl rfl E (by simp only [List.map_toArray, List.map_cons, List.map_nil]; rfl) ?_
                            intro WX hNE bE
                            simp only [Act.put, List.setIfInBounds_toArray, List.set_cons_succ, List.set_cons_zero]
                            refine app_s W3 rfl rfl (by omega) Try.underlying24 infoEnt rfl (own_keep OeD bE) rfl (hNE.sr (by omega)) (by have := HDL.out; show _ + 1 ≤ _; omega) (by have := HDL.out; show (_ + 1) * 608 ≤ _; omega) (ab_trans bwD bE) ?_
                            intro v6 WF O6 b6 gr6
                            obtain ⟨q6, c6, e6⟩ := O6.form (by omega)
                            have e6' : v6 = .slice q6 (kk + 1) c6 := by rw [e6, List.length_append, HDL.out]; rfl
                            clear e6
                            subst e6'
                            have hB6 := blk_grown (hBD.keep bE) gr6 (own_otherG (own_keep OeD bE) (hBD.keep bE) (by decide))
                            have p5 := (six hB6).c5
                            have f5 := (six hB6).f5
                            simp only [Act.put, List.setIfInBounds_toArray, List.set_cons_succ, List.set_cons_zero]
                            have Oo6 := World.ownsRow.kept (own_keep OoD bE) gr6 (sep_types (own_keep OoD bE) (own_keep OeD bE) (by decide)).row
                            have On6 := World.ownsRow.kept (own_keep OnD bE) gr6 (sep_types (own_keep OnD bE) (own_keep OeD bE) (by decide)).row
                            have C7 := chg_set WF W3.heap.size 5 (.slice q6 (kk + 1) c6)
                            have O7 := own_chgO O6 C7 (own_otherG O6 hB6 (by decide))
                            have Oo7 := own_chgO Oo6 C7 (own_otherG Oo6 hB6 (by decide))
                            have On7 := own_chgO On6 C7 (own_otherG On6 hB6 (by decide))
                            have hB7 := hB6.set 5 (.slice q6 (kk + 1) c6)
                            have bw7 := ab_chg b6 C7 (Nat.le_refl _)
                            refine valS rfl (.pointer (some ⟨W3.heap.size, 5, none⟩)) (by first | rfl | (go_simp; try rfl)) ?_
                            simp only [Act.put, List.setIfInBounds_toArray, List.set_cons_succ, List.set_cons_zero]
                            have HREL : Hid (∃ (q6 : Option Addr) (c6 : Nat), SO 82 76 ek (WF.setCell ⟨W3.heap.size, 5, none⟩ (.slice q6 (kk + 1) c6)) W3.heap.size (.slice q6 (kk + 1) c6) (done ++ [E]) ∧ True) := ⟨q6, c6, O7, trivial⟩
                            clear HREL HAT IL HTk HSt HNG HY HE4 HFin' HGn HR20 HFr HNs HA0 HA1 hve hvo hvn h90 h91 hED hrD hNE OeD OoD OnD hBD bwD bE gr6 hU0 hU140 w2 hnl
                            go_wp2_with fail
                            go_meet
                            case rel => exact ⟨q6, c6, O7, Oo7, On7, hB7, bw7⟩
                          case rest =>
                            obtain ⟨q6, c6, O7, Oo7, On7, hB7, bw7⟩ := hcut
                            clear OeD OoD OnD hBD bwD hED hrD hve hvo hvn hBE hBE2 h90 h91 w2 hU0
                            have w3 : ((ii3 : Int) + 2 + (U : Int)) ≤ 9223372036854775807 := by omega
                            obtain ⟨I3, hI3⟩ : ∃ I3 : Nat, I3 = ii3 + 2 := ⟨_, rfl⟩
                            have w4 : (ii3 : Int) + 2 = (I3 : Int) := by omega
                            have HI3 : Hid (I3 = ii3 + 2) := hI3
                            have hI3l : I3 ≤ 15000 := by omega
                            clear hI3 w3
                            go_upto_region 37 with fail
                            go_upto_region 26 with fail
                            clear w4
                            subst hnl
                            go_wp2_with fail
                            refine ⟨⟨done ++ [E], kk + 1, I3 + U, _, by rw [List.length_append, HDL.out]; rfl, by have := HLT.out; omega, rfl, congrArg (Value.int .i64) (by omega), by rw [HI3.out, HSt.out.1]; exact HSt.out.2.1, by have := HIB.out; have := HI3.out; omega, ?_, O7, Oo7, On7, hB7, bw7⟩, by have := HLT.out; simp only [intOf]; omega⟩
                            intro x hx
                            rcases List.mem_append.1 hx with hx | hx
                            · exact HWd.out x hx
                            · simp at hx; subst hx; exact HE9.out
                    · rw [decide_eq_false hlt]
                      obtain rfl : kk = c3 l := by have := HKK.out; omega
                      have HNd : Hid (rdN l done = ⟨K0, K1, K2, xsU l (c1 l), osK l (c2 l), done⟩) := by show _ = _; unfold rdN; rw [HK0.out, HK1.out, HK2.out]
                      have HWN : Hid (WN ⟨K0, K1, K2, xsU l (c1 l), osK l (c2 l), done⟩) := by have := rdN_wf HIn.out HWd.out; rw [HNd.out] at this; exact this
                      have HNOB : Hid (¬ (GoodN ⟨K0, K1, K2, xsU l (c1 l), osK l (c2 l), done⟩ ∧ bysN ⟨K0, K1, K2, xsU l (c1 l), osK l (c2 l), done⟩ = b) → NoB b) := fun h => HFin'.out done (l.drop ii3) HWd.out HDL.out HDR.out (by rw [HNd.out]; exact h)
                      have On' : Io wc W3.heap.size vn (xsU l (c1 l)) := On
                      have sb4 := sb3.keep hbw
                      obtain ⟨p0, p1, p2, p3, p4, p5, -, -, -, -, -, -⟩ := six hBk
                      have hIs := On'.is
                      have hSo := Oo.sr (by omega)
                      have hSe := Oe.sr (by omega)
                      clear HAT HX5 HC3 HKK HDL HDR hlt hk100 HIB hi15 HFin' HGn HI2 hj605 hi104
                      by_cases g : GoodN ⟨K0, K1, K2, xsU l (c1 l), osK l (c2 l), done⟩
                      · go_upto_region 39 with (go_at_call 13; refine (rencode_ok ⟨K0, K1, K2, xsU l (c1 l), osK l (c2 l), done⟩ vn vo ve _ hIs hSo hSe HWN.out g).mono ?_; rintro e WA ⟨vA, rfl, OwA, bA⟩)
                        have bwA := ab_trans hbw bA
                        have hcs1 := sl_str OwA.sl
                        have hcs2 := sl_str (sb4.keep bA)
                        by_cases hbb : bysN ⟨K0, K1, K2, xsU l (c1 l), osK l (c2 l), done⟩ = b
                        · rw [hbb] at hcs1
                          have HYY : Hid (∀ W, Io W w.heap.size vn (xsU l (c1 l)) → SO 73 5 k64 W w.heap.size vo (osK l (c2 l)) → SO 82 76 ek W w.heap.size ve done → RcP W w.heap.size b (.returned (.tuple #[.agg #[.int .i64 K0, .int .i64 K1, .int .i64 K2, vn, vo, ve], .int .i64 0]))) := fun W a1 a2 a3 => HY.out W ⟨K0, K1, K2, xsU l (c1 l), osK l (c2 l), done⟩ vn vo ve HWN.out g hbb a1 a2 a3
                          have On9 := On'.keep bA
                          have Oo9 := Oo.keep bA
                          have Oe9 := Oe.keep bA
                          clear hIs hSo hSe On On' Oo Oe g HNOB HWN HNd sb4
                          obtain ⟨qn9, cn9, en9⟩ := On9.form
                          obtain ⟨qo9, co9, eo9⟩ := Oo9.form (by omega)
                          obtain ⟨qe9, ce9, ee9⟩ := Oe9.form (by omega)
                          rw [xsU_len] at en9
                          rw [osK_len] at eo9
                          subst en9
                          subst eo9
                          subst ee9
                          go_upto_region 41 with fail
                          clear hcs1 hcs2 p0 p1 p2 p3 p4 p5
                          obtain ⟨p0, p1, p2, p3, p4, p5, -, -, -, -, -, -⟩ := six (hBk.keep bA)
                          obtain ⟨y0, y1, y2, y3, y4, y5, f0, f1, f2, f3, f4, f5⟩ := six (hR3.keep bwA)
                          go_wp2_with fail
                          obtain ⟨hR9, C9⟩ := blk_six (hR3.keep bwA) (.int .i64 K0) (.int .i64 K1) (.int .i64 K2) (.slice qn9 (c1 l) cn9) (.slice qo9 (c2 l) co9) (.slice qe9 done.length ce9)
                          have hlw := Nat.le_of_lt hwB.out
                          exact bodyPost_ret (results_c2 rfl _ _ _ 26 _ (0, 0) _ (.int .i64 0) rfl rfl hR9 Try.underlying26 rfl (info_note _ _ _ _ _ _)) rfl
                            ⟨HYY.out _ ((io_chg On9 C9 hwB.out).less hlw) ((so_chg Oo9 C9 hwB.out).less hlw) ((so_chg Oe9 C9 hwB.out).less hlw), ab_chg (ab_trans hw3 bwA) C9 (Nat.le_refl _)⟩
                        · have hneb := strB_ne (fun e => hbb (strB_inj (show Byt (bysN _) from frm_byt (numsB_byt _)) HB.out e))
                          have HE : Hid (∀ W, RcP W w.heap.size b (.returned (.tuple #[.agg zNt, .int .i64 4]))) := HE4.out (HNOB.out fun h => hbb h.2)
                          obtain ⟨y0, y1, y2, y3, y4, y5, f0, f1, f2, f3, f4, f5⟩ := six (hR3.keep bwA)
                          go_wp2_with fail
                          obtain ⟨hR9, C9⟩ := blk_six (hR3.keep bwA) (.int .i64 0) (.int .i64 0) (.int .i64 0) (.slice none 0 0) (.slice none 0 0) (.slice none 0 0)
                          exact bodyPost_ret (results_c2 rfl _ _ _ 26 _ (0, 0) _ (.int .i64 4) rfl rfl hR9 Try.underlying26 rfl (info_note _ _ _ _ _ _)) rfl ⟨HE.out _, ab_chg (ab_trans hw3 bwA) C9 (Nat.le_refl _)⟩
                      · go_upto_region 39 with (go_at_call 13; refine (rencode_no ⟨K0, K1, K2, xsU l (c1 l), osK l (c2 l), done⟩ vn vo ve _ hIs hSo hSe g).mono ?_; rintro e WA ⟨rfl, bA⟩)
                        have bwA := ab_trans hbw bA
                        have HE : Hid (∀ W, RcP W w.heap.size b (.returned (.tuple #[.agg zNt, .int .i64 4]))) := HE4.out (HNOB.out fun h => g h.1)
                        obtain ⟨y0, y1, y2, y3, y4, y5, f0, f1, f2, f3, f4, f5⟩ := six (hR3.keep bwA)
                        go_wp2_with fail
                        obtain ⟨hR9, C9⟩ := blk_six (hR3.keep bwA) (.int .i64 0) (.int .i64 0) (.int .i64 0) (.slice none 0 0) (.slice none 0 0) (.slice none 0 0)
                        exact bodyPost_ret (results_c2 rfl _ _ _ 26 _ (0, 0) _ (.int .i64 4) rfl rfl hR9 Try.underlying26 rfl (info_note _ _ _ _ _ _)) rfl ⟨HE.out _, ab_chg (ab_trans hw3 bwA) C9 (Nat.le_refl _)⟩
end Go.Proofs.Ytjbhicjnnghjjaa
