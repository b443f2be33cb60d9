/-
  The walk of estuarylaw02.CellBounds.
-/
import Derived.Test.YtnppdachbfcfkabOnes
import Derived.Deep.QuietTactic
namespace Go.Proofs.Ytnppdachbfcfkab.cellBounds
open Go.RowKit
set_option linter.unusedVariables false
attribute [local go_sem] eq_fold

theorem srow_keep {W W' : World} {g off : Nat} {l : List (Nat → Int)} (h : SRow W g off l) (hg : 0 < l.length → g < W.heap.size) (hb : Below W.heap.size W W') : SRow W' g off l := by
  intro j s hs i hi
  have hl : 0 < l.length := by have := (List.getElem?_eq_some_iff.1 hs).1; omega
  exact ⟨(hb.cell (p := ⟨g, _, none⟩) (hg hl)).trans (h j s hs i hi).1, (h j s hs i hi).2⟩
theorem hsum_bd {x : Nat → Int} {N : Int} (h : ∀ i, i < 65 → 0 ≤ x (9 + i) ∧ x (9 + i) ≤ N) : ∀ k : Nat, k ≤ 65 → 0 ≤ hsum x k ∧ hsum x k ≤ N * k
  | 0, _ => by simp [hsum]
  | k + 1, hk => by
    have := hsum_bd h k (by omega)
    have := h k (by omega)
    simp only [hsum]
    have e : N * ((k + 1 : Nat) : Int) = N * k + N := by rw [Int.natCast_add, Int.mul_add]; simp
    omega

theorem beq_dec (a b : Int) : (a == b) = decide (a = b) := by by_cases h : a = b <;> simp [h]
/-- What the three marks say behind k samples. -/
def Fl (l : List (Nat → Int)) (x : Nat → Int) (n k : Nat) (b1 b2 b3 : Bool) : Prop :=
  (n = 0 → b1 = true ∧ b2 = true ∧ b3 = true) ∧ (∀ s ∈ l.take k, s 5 = x 3 → b1 = true) ∧ (∀ s ∈ l.take k, s 5 = x 4 → b2 = true) ∧ (∀ s ∈ l.take k, (x 5 = s 3 ∧ x 6 = s 0 ∧ x 7 = s 1 ∧ x 8 = s 5) → b3 = true)
theorem fl_end {l : List (Nat → Int)} {x : Nat → Int} {n : Nat} {b1 b2 b3 : Bool} (h : Fl l x n n b1 b2 b3) (hn : l.length = n) (hd : Bd l x) : b1 = true ∧ b2 = true ∧ b3 = true := by
  obtain ⟨h0, h1, h2, h3⟩ := h
  by_cases c : n = 0
  · exact h0 c
  · have hne : l ≠ [] := by intro e; subst e; simp at hn; omega
    rw [List.take_of_length_le (by omega)] at h1 h2 h3
    obtain ⟨s, hs, e⟩ := hd.low hne
    obtain ⟨t, ht, f⟩ := hd.high hne
    obtain ⟨u, hu, g⟩ := hd.last hne
    exact ⟨h1 s hs e, h2 t ht f, h3 u hu g⟩
theorem fl_step {l : List (Nat → Int)} {x s : Nat → Int} {n k : Nat} {b1 b2 b3 c1 c2 c3 : Bool} (h : Fl l x n k b1 b2 b3) (hs : l[k]? = some s) (hk : k < n)
    (e1 : c1 = (b1 || decide (s 5 = x 3))) (e2 : c2 = (b2 || decide (s 5 = x 4))) (e3 : c3 = (b3 || (decide (x 5 = s 3) && (decide (x 6 = s 0) && (decide (x 7 = s 1) && decide (x 8 = s 5)))))) : Fl l x n (k + 1) c1 c2 c3 := by
  obtain ⟨h0, h1, h2, h3⟩ := h
  subst e1; subst e2; subst e3
  have ht : l.take (k + 1) = l.take k ++ [s] := by rw [List.take_add_one, hs]; rfl
  rw [Fl, ht]
  refine ⟨fun e => absurd e (by omega), fun t hm e => ?_, fun t hm e => ?_, fun t hm e => ?_⟩
  · rcases List.mem_append.1 hm with hm | hm
    · simp [h1 t hm e]
    · simp at hm; subst hm; simp [e]
  · rcases List.mem_append.1 hm with hm | hm
    · simp [h2 t hm e]
    · simp at hm; subst hm; simp [e]
  · rcases List.mem_append.1 hm with hm | hm
    · simp [h3 t hm e]
    · simp at hm; subst hm; simp [e]

theorem big (q : Option Addr) (n cap : Nat) (w : World) (h : 2000 < n) : Calls Try.prog 3 #[.slice q n cap] w fun e w' => e = .returned (.bool true) ∧ Below w.heap.size w w' := by
  have h' : (2000 : Int) < (n : Int) := by omega
  go_enter Try.func3, Try.ntmps3
  go_wp2_with (go_at_call 4; refine (alive2_any _).mono ?_; rintro e W1 ⟨rfl, hb⟩)
  go_ret
  exact ⟨rfl, hb⟩

set_option maxRecDepth 100000 in
set_option maxHeartbeats 2000000 in
theorem small (q : Option Addr) (g off n cap : Nat) (l : List (Nat → Int)) (w : World) (hn : l.length = n) (h : n ≤ 2000) (hp : 0 < n → q = some ⟨g, off, none⟩) (hg : 0 < n → g < w.heap.size) (hr : SRow w g off l) :
    Calls Try.prog 3 #[.slice q n cap] w fun e w' => e = .returned (.bool true) ∧ Below w.heap.size w w' := by
  have hfit : ∀ s ∈ l, Fit (s 5) := fun s hs => by
    obtain ⟨j, hj, e⟩ := List.mem_iff_getElem.1 hs
    exact (hr j s (by rw [List.getElem?_eq_getElem hj, e]) 5 (by omega)).2
  have hwf : ∀ c ∈ l.map oneS, Wf c := fun c hc => by
    obtain ⟨s, hs, rfl⟩ := List.mem_map.1 hc
    obtain ⟨j, hj, e⟩ := List.mem_iff_getElem.1 hs
    have f := fun i hi => (hr j s (by rw [List.getElem?_eq_getElem hj, e]) i hi).2
    exact wf_one _ _ _ _ (f 0 (by omega)) (f 1 (by omega)) (f 3 (by omega)) (f 5 (by omega))
  have BD := bd_ones l (by omega) hfit
  have WX := wf_joinF _ hwf
  have h' : (n : Int) ≤ (2000 : Int) := by omega
  go_enter Try.func3, Try.ntmps3
  go_upto_region 6 with (first
    | (go_at_call 4; refine (alive2_any _).mono ?_; rintro e W1 ⟨rfl, b1⟩)
    | (go_at_call 6; refine (cells_any q g off n cap l _ hn (by omega) hp (srow_keep hr (by omega) b1) (fun h0 => Nat.lt_of_lt_of_le (hg h0) b1.size)).mono ?_; rintro e W2 ⟨v, rfl, hown, hv, b2⟩; obtain ⟨g2, cap2, rfl, hbg, hg2, hl2, hnc, hcm, hcr⟩ := owns_crow hown hv)
    | (go_at_call 5; refine (join_any g2 0 n cap2 (l.map oneS) _ (by simpa using hn) (by omega) hwf hcr hg2).mono ?_; rintro e W3 ⟨rfl, b3⟩)
    | (refine al_cell rfl rfl ?_; intro W4 e4 hX4 b4; clear e4)
    | (refine st_cell rfl rfl hX4 rfl rfl ?_; intro W5 hX5 C5))
  have hw5 : Below w.heap.size w W5 := ab_chg (ab_trans (ab_trans (ab_trans b1 b2) b3) b4) C5 (by have := b1.size; have := b2.size; have := b3.size; omega)
  have hC : w.heap.size ≤ W3.heap.size := by have := b1.size; have := b2.size; have := b3.size; omega
  clear b1 b2 b3 b4 C5 hX4 hown hv hcr hbg hg2 hl2 hnc hcm hwf
  generalize W3.heap.size = C at *
  generalize joinF (l.map oneS) = x at *
  obtain ⟨x0, x1, x2, x3, x4, x5, x6, x7, x8⟩ := hX5.nine
  have IX := fun (k : Nat) (hk : k < 65) (W : World) => index_hist (fun i => x (9 + i)) k hk W
  have HC : Hid (x 0 = (n : Int)) := by show _ = _; rw [BD.cnt, hn]
  have HS : Hid (hsum x 65 = (n : Int)) := by show _ = _; rw [BD.hs, hn]
  have HB := hsum_bd BD.hb
  rw [hn] at HB
  rw [HC.out] at x0
  have w3 := WX.2 3 (by omega) (by omega)
  have w4 := WX.2 4 (by omega) (by omega)
  have w5 := WX.2 5 (by omega) (by omega)
  have w6 := WX.2 6 (by omega) (by omega)
  have w7 := WX.2 7 (by omega) (by omega)
  have w8 := WX.2 8 (by omega) (by omega)
  have HD : Hid (Bd l x) := BD
  clear BD WX
  go_wp2_with (refine ld_hist9 rfl rfl hX5 rfl ?_)
  go_loop [4, 23] (fun s i => ∃ k : Nat, k ≤ 65 ∧ i = .int .i64 (k : Int) ∧ s = .int .i64 (hsum x k)) (fun _ i => 65 - (intOf i).toNat)
  case atStart => exact ⟨0, by omega, rfl, rfl⟩
  case round =>
    obtain ⟨k, hk, rfl, rfl⟩ := hrel
    by_cases c : k = 65
    · subst c
      rw [HS.out]
      clear IX HB
      go_wp2_with fail
      go_loopw [7, 8, 9, 52] (fun lo hi la i wr => ∃ (k : Nat) (b1 b2 b3 : Bool), k ≤ n ∧ i = .int .i64 (k : Int) ∧ lo = .bool b1 ∧ hi = .bool b2 ∧ la = .bool b3 ∧ Fl l x n k b1 b2 b3 ∧ Blk wr C (CA x) 31 ∧ Below w.heap.size w wr) (fun _ _ _ i _ => n - (intOf i).toNat)
      case atStart => exact ⟨0, _, _, _, by omega, rfl, rfl, rfl, rfl, ⟨fun e => by subst e; simp, fun s hs => by simp at hs, fun s hs => by simp at hs, fun s hs => by simp at hs⟩, hX5, hw5⟩
      case round =>
        clear x0 x1 x2 x3 x4 x5 x6 x7 x8 hX5 hw5
        obtain ⟨k, m1, m2, m3, hk, rfl, rfl, rfl, rfl, HF0, hX, hw⟩ := hrel
        have HF : Hid (Fl l x n k m1 m2 m3) := HF0
        clear HF0
        by_cases c : k = n
        · subst c
          obtain ⟨rfl, rfl, rfl⟩ := fl_end HF.out hn HD.out
          clear HF HD hr hfit
          go_wp2_with fail
          go_ret
          exact ⟨rfl, hw⟩
        · have hlt : k < l.length := by omega
          obtain ⟨s, hs⟩ : ∃ s, l[k]? = some s := ⟨l[k], List.getElem?_eq_getElem hlt⟩
          obtain rfl := hp (by omega)
          have hki : (k : Int) < (n : Int) := by omega
          have c0 := (hw.cell (p := ⟨g, off + k * 6 + 0, none⟩) (hg (by omega))).trans (hr k s hs 0 (by omega)).1
          have c1 := (hw.cell (p := ⟨g, off + k * 6 + 1, none⟩) (hg (by omega))).trans (hr k s hs 1 (by omega)).1
          have c2 := (hw.cell (p := ⟨g, off + k * 6 + 2, none⟩) (hg (by omega))).trans (hr k s hs 2 (by omega)).1
          have c3 := (hw.cell (p := ⟨g, off + k * 6 + 3, none⟩) (hg (by omega))).trans (hr k s hs 3 (by omega)).1
          have c4 := (hw.cell (p := ⟨g, off + k * 6 + 4, none⟩) (hg (by omega))).trans (hr k s hs 4 (by omega)).1
          have c5 := (hw.cell (p := ⟨g, off + k * 6 + 5, none⟩) (hg (by omega))).trans (hr k s hs 5 (by omega)).1
          rw [Nat.add_zero] at c0
          have hall := HD.out.all s (List.mem_of_getElem? hs)
          obtain ⟨al1, al2, al3⟩ := hall
          have HST : Hid (∀ d1 d2 d3, d1 = (m1 || decide (s 5 = x 3)) → d2 = (m2 || decide (s 5 = x 4)) → d3 = (m3 || (decide (x 5 = s 3) && (decide (x 6 = s 0) && (decide (x 7 = s 1) && decide (x 8 = s 5))))) → Fl l x n (k + 1) d1 d2 d3) := fun _ _ _ e1 e2 e3 => fl_step HF.out hs (by omega) e1 e2 e3
          clear hr hlt hp hg HF hs hfit
          go_upto_region 18 with fail
          have hX1 := hX.alloc (.cells #[.int .i64 (s 0), .int .i64 (s 1), .int .i64 (s 2), .int .i64 (s 3), .int .i64 (s 4), .int .i64 (s 5)] 38)
          have hw1 := ab_alloc hw (.cells #[.int .i64 (s 0), .int .i64 (s 1), .int .i64 (s 2), .int .i64 (s 3), .int .i64 (s 4), .int .i64 (s 5)] 38)
          have hq := Blk.new wr #[.int .i64 (s 0), .int .i64 (s 1), .int .i64 (s 2), .int .i64 (s 3), .int .i64 (s 4), .int .i64 (s 5)] 38
          clear c0 c1 c2 c3 c4 c5 hX hw
          generalize wr.alloc (.cells #[.int .i64 (s 0), .int .i64 (s 1), .int .i64 (s 2), .int .i64 (s 3), .int .i64 (s 4), .int .i64 (s 5)] 38) = V1 at *
          have q0 := hq.at (i := 0) rfl
          have q1 := hq.at (i := 1) rfl
          have q3 := hq.at (i := 3) rfl
          have q5 := hq.at (i := 5) rfl
          obtain ⟨x0, x1, x2, x3, x4, x5, x6, x7, x8⟩ := hX1.nine
          clear x0 x1 x2
          go_upto_region 21 with fail
          clear al1 al2 al3
          cases m1 <;> cases m2 <;> cases m3
          all_goals
            go_quiet (fail)
            go_wp2_with fail
            go_roundw
            case rel => exact ⟨k + 1, _, _, _, by omega, by go_num, rfl, rfl, rfl, HST.out _ _ _ (by simp <;> exact beq_dec _ _) (by simp <;> exact beq_dec _ _) (by simp), hX1.keep (ab_drewN (Below.refl _ _) _), ab_drewN hw1 _⟩
            case measure => simp [intOf]; omega
    · have hix := IX k (by omega)
      have y0 := HB k hk
      have y1 := HB (k + 1) (by omega)
      have HN : Hid (hsum x k + x (9 + k) = hsum x (k + 1)) := rfl
      have z0 : -9223372036854775808 ≤ hsum x k + x (9 + k) := by have := y1; simp only [hsum] at this; omega
      have z1 : hsum x k + x (9 + k) ≤ 9223372036854775807 := by
        have := y1.2; rw [show hsum x (k + 1) = hsum x k + x (9 + k) from rfl] at this
        have : (n : Int) * ((k + 1 : Nat) : Int) ≤ 2000 * 65 := Int.mul_le_mul h' (by omega) (by omega) (by omega)
        omega
      have hki : (k : Int) < 65 := by omega
      clear y0 y1 IX HB
      go_wp2_with fail
      go_round
      case rel => exact ⟨k + 1, by omega, by go_num, congrArg _ HN.out⟩
      case measure => simp [intOf]; omega

end Go.Proofs.Ytnppdachbfcfkab.cellBounds
