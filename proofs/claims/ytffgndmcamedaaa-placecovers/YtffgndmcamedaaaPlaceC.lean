/-
  What is covered: place.Covered, with its closure, and slices.ContainsFunc at it.
-/
import Derived.Test.YtffgndmcamedaaaAlive3
namespace Go.Proofs.Ytffgndmcamedaaa
open Go.RowKit
set_option linter.unusedVariables false

/-- A cell is ahead of its lane's place. -/
def cov1 (pls : List (Int × Int)) (x : Int × Int × Int) : Bool := if 0 ≤ x.1 then (match pls[x.1.toNat]? with | some p => pl x.2.1 x.2.2 p.1 p.2 | none => false) else false
def covL (pls : List (Int × Int)) (L : List (Int × Int × Int)) : Bool := decide (0 < L.length) && L.all (cov1 pls)
theorem cov_neg {pls : List (Int × Int)} {l a k : Int} (h : l < 0) : cov1 pls (l, a, k) = false := by unfold cov1; rw [if_neg (by dsimp only; omega)]
theorem cov_far {pls : List (Int × Int)} {l a k : Int} {n : Nat} (hn : pls.length = n) (h : (n : Int) ≤ l) : cov1 pls (l, a, k) = false := by
  unfold cov1; dsimp only; rw [if_pos (by omega), List.getElem?_eq_none (by omega)]
theorem cov_at {pls : List (Int × Int)} {m : Nat} {a k : Int} {p : Int × Int} (h : pls[m]? = some p) : cov1 pls ((m : Int), a, k) = pl a k p.1 p.2 := by
  unfold cov1; dsimp only; rw [if_pos (by omega), Int.toNat_natCast, h]

set_option maxHeartbeats 400000 in
theorem bare_any (l a k : Int) (b : Nat) (q : Option Addr) (g off n cap : Nat) (pls : List (Int × Int)) (w : World) (hb : w.cell? ⟨b, 0, none⟩ = some (.slice q n cap)) (hbl : b < w.heap.size) (hn : pls.length = n) (hp : 0 < n → q = some ⟨g, off, none⟩) (hg : 0 < n → g < w.heap.size) (hr : Row2 w g off pls) :
    Calls Try.prog 32 #[.agg #[.int .i64 l, .int .i64 a, .int .i64 k], .pointer (some ⟨b, 0, none⟩)] w fun e w' => e = .returned (.bool (!cov1 pls (l, a, k))) ∧ Below w.heap.size w w' := by
  have hne : b ≠ w.heap.size := by omega
  by_cases c : l < 0
  · have HV : Hid ((!cov1 pls (l, a, k)) = true) := by show _ = _; rw [cov_neg c]; rfl
    have c1 : decide (0 ≤ l) = false := decide_eq_false (by omega)
    clear hr hp hg c
    go_enter Try.func32, Try.ntmps32
    go_upto_region 2 with fail
    go_quiet (fail)
    go_wp2_with fail
    go_ret
    exact ⟨by rw [HV.out]; rfl, ab_drewN (ab_alloc (Below.refl _ _) _) _⟩
  · by_cases d : (n : Int) ≤ l
    · have HV : Hid ((!cov1 pls (l, a, k)) = true) := by show _ = _; rw [cov_far hn d]; rfl
      have c1 : decide (0 ≤ l) = true := decide_eq_true (by omega)
      have c2 : decide (l < (n : Int)) = false := decide_eq_false (by omega)
      clear hr hp hg c d
      go_enter Try.func32, Try.ntmps32
      go_upto_region 2 with fail
      go_quiet (fail)
      go_wp2_with fail
      go_ret
      exact ⟨by rw [HV.out]; rfl, ab_drewN (ab_alloc (Below.refl _ _) _) _⟩
    · obtain ⟨m, rfl⟩ : ∃ m : Nat, l = (m : Int) := ⟨l.toNat, by omega⟩
      have hm : m < n := by omega
      obtain ⟨p, hpm⟩ : ∃ p, pls[m]? = some p := ⟨pls[m], List.getElem?_eq_getElem (by omega)⟩
      have HV : Hid ((!cov1 pls ((m : Int), a, k)) = !pl a k p.1 p.2) := by show _ = _; rw [cov_at hpm]
      obtain ⟨r1, r2⟩ := hr m p hpm
      obtain rfl := hp (by omega)
      have hg' := hg (by omega)
      have hne2 : g ≠ w.heap.size := by omega
      have hmi : (m : Int) < (n : Int) := by omega
      clear hr hp hg c d
      go_enter Try.func32, Try.ntmps32
      go_upto_region 2 with fail
      obtain ⟨A, hE, hI, hw⟩ := blk1 w #[.int .i64 (m : Int), .int .i64 a, .int .i64 k] 41
      rw [hE]
      clear hE
      have x0 := cls_cell (hI.at (i := 0) rfl) hI.lt
      have x1 := cls_cell (hI.at (i := 1) rfl) hI.lt
      have x2 := cls_cell (hI.at (i := 2) rfl) hI.lt
      have x3 := cls_cell (keep_cell hw hb hbl) (Nat.lt_of_lt_of_le hbl hw.size)
      have x4 := cls_cell (keep_cell hw r1 hg') (Nat.lt_of_lt_of_le hg' hw.size)
      have x5 := cls_cell (keep_cell hw r2 hg') (Nat.lt_of_lt_of_le hg' hw.size)
      clear hI hb r1 r2
      dsimp only [List.size_toArray, List.getElem_toArray, List.getElem_cons_zero, List.getElem_cons_succ] at x0 x1 x2
      refine wp_region_below (by kernel_rfl) (by kernel_rfl) ?_
      have HZ := cls_some A
      repeat (go_big_quiet_step (first
        | (go_at_call 12; exact calls_below (pless_any _ _ _ _ _))))
      refine wpQuiet_nil ?_
      rintro _ ⟨x, rfl⟩
      go_wp2_with fail
      go_ret
      exact ⟨by rw [HV.out]; rfl, ab_trans hw x.prop⟩

/-- The function value that asks. -/
abbrev bareV (b : Nat) : Value := .func (.func 32) #[] #[.pointer (some ⟨b, 0, none⟩)]
theorem index_any (q' : Option Addr) (g' off' n' cap' : Nat) (L : List (Int × Int × Int)) (b : Nat) (q : Option Addr) (g off n cap : Nat) (pls : List (Int × Int)) (w : World)
    (hn' : L.length = n') (hp' : 0 < n' → q' = some ⟨g', off', none⟩) (hg' : 0 < n' → g' < w.heap.size) (hr' : Row3 w g' off' L) (hm' : n' ≤ 100000)
    (hb : w.cell? ⟨b, 0, none⟩ = some (.slice q n cap)) (hbl : b < w.heap.size) (hn : pls.length = n) (hp : 0 < n → q = some ⟨g, off, none⟩) (hg : 0 < n → g < w.heap.size) (hr : Row2 w g off pls) :
    Calls Try.prog 36 #[.slice q' n' cap', bareV b] w fun e w' => ∃ i : Int, e = .returned (.int .i64 i) ∧ decide (0 ≤ i) = (!L.all (cov1 pls)) ∧ Below w.heap.size w w' := by
  go_enter Try.func36, Try.ntmps36
  go_wp2_with fail
  go_loopw [8] (fun i wr => ∃ k : Nat, k ≤ n' ∧ i = .int .i64 (k : Int) ∧ (∀ x ∈ L.take k, cov1 pls x = true) ∧ Below w.heap.size w wr) (fun i _ => n' - (intOf i).toNat)
  case atStart => exact ⟨0, by omega, rfl, fun x hx => by simp at hx, Below.refl _ _⟩
  case round =>
    obtain ⟨k, hk, rfl, hall, hw⟩ := hrel
    by_cases c : k = n'
    · subst c
      have HV : Hid ((!L.all (cov1 pls)) = false) := by
        show _ = _
        rw [List.take_of_length_le (by omega)] at hall
        simp only [Bool.not_eq_false', List.all_eq_true]
        exact hall
      clear hall hr hr'
      go_wp2_with fail
      go_ret
      exact ⟨-1, rfl, by rw [HV.out]; rfl, hw⟩
    · obtain ⟨x, hx⟩ : ∃ x, L[k]? = some x := ⟨L[k], List.getElem?_eq_getElem (by omega)⟩
      obtain ⟨x0, x1, x2⟩ := hr' k x hx
      obtain rfl := hp' (by omega)
      have hgk := hg' (by omega)
      have y0 := keep_cell hw x0 hgk
      have y1 := keep_cell hw x1 hgk
      have y2 := keep_cell hw x2 hgk
      have hki : (k : Int) < (n' : Int) := by omega
      have hb1 := keep_cell hw hb hbl
      have hr1 := row2_keep hr (by omega) hw
      have hg1 : 0 < n → g < wr.heap.size := fun h => Nat.lt_of_lt_of_le (hg h) hw.size
      have hbl1 := Nat.lt_of_lt_of_le hbl hw.size
      obtain ⟨xl, xa, xk⟩ := x
      dsimp only at y0 y1 y2
      clear x0 x1 x2 hr' hr hb
      cases hc : cov1 pls (xl, xa, xk)
      · have HV : Hid ((!L.all (cov1 pls)) = true) := by
          show _ = _
          simp only [Bool.not_eq_true', List.all_eq_false]
          exact ⟨_, List.mem_of_getElem? hx, by rw [hc]; simp⟩
        clear hall hx
        go_wp2_with (go_at_call 32; refine (bare_any xl xa xk b q g off n cap pls _ hb1 hbl1 hn hp hg1 hr1).mono ?_; rintro e W2 ⟨rfl, b2⟩; rw [hc])
        go_ret
        exact ⟨(k : Int), rfl, by rw [HV.out]; exact decide_eq_true (by omega), ab_trans hw b2⟩
      · have HV : Hid (∀ x ∈ L.take (k + 1), cov1 pls x = true) := by
          intro x hm
          rw [List.take_add_one, hx] at hm
          simp only [Option.toList_some, List.mem_append, List.mem_singleton] at hm
          rcases hm with hm | rfl
          · exact hall x hm
          · exact hc
        clear hall hx
        go_wp2_with (go_at_call 32; refine (bare_any xl xa xk b q g off n cap pls _ hb1 hbl1 hn hp hg1 hr1).mono ?_; rintro e W2 ⟨rfl, b2⟩; rw [hc])
        go_roundw
        case rel => exact ⟨k + 1, by omega, by go_num, HV.out, ab_trans hw b2⟩
        case measure => simp [intOf]; omega

theorem contains_any (q' : Option Addr) (g' off' n' cap' : Nat) (L : List (Int × Int × Int)) (b : Nat) (q : Option Addr) (g off n cap : Nat) (pls : List (Int × Int)) (w : World)
    (hn' : L.length = n') (hp' : 0 < n' → q' = some ⟨g', off', none⟩) (hg' : 0 < n' → g' < w.heap.size) (hr' : Row3 w g' off' L) (hm' : n' ≤ 100000)
    (hb : w.cell? ⟨b, 0, none⟩ = some (.slice q n cap)) (hbl : b < w.heap.size) (hn : pls.length = n) (hp : 0 < n → q = some ⟨g, off, none⟩) (hg : 0 < n → g < w.heap.size) (hr : Row2 w g off pls) :
    Calls Try.prog 33 #[.slice q' n' cap', bareV b] w fun e w' => e = .returned (.bool (!L.all (cov1 pls))) ∧ Below w.heap.size w w' := by
  go_enter Try.func33, Try.ntmps33
  go_wp2_with fail
  refine (index_any q' g' off' n' cap' L b q g off n cap pls w hn' hp' hg' hr' hm' hb hbl hn hp hg hr).mono ?_
  rintro e w' ⟨i, rfl, hi, hw⟩
  have HI : Hid (_ = _) := hi
  clear hr hr' hi
  go_wp2_with fail
  go_ret
  exact ⟨ret_bool HI.out, hw⟩

set_option maxHeartbeats 400000 in
theorem covered_any (s0 s1 t key s4 : Int) (q : Option Addr) (g off n cap : Nat) (l : List Int) (sh : Int) (q2 : Option Addr) (g2 off2 n2 cap2 : Nat) (pls : List (Int × Int)) (w : World) (hn : l.length = n) (hb : n ≤ 100000) (hp : 0 < n → q = some ⟨g, off, none⟩) (hg : 0 < n → g < w.heap.size) (hr : IRow w g off l)
    (t0 : -9223372036854775808 ≤ t) (t1 : t ≤ 9223372036854775807) (k0 : -9223372036854775808 ≤ key) (k1 : key ≤ 9223372036854775807) (h1 : sh ≤ 9223372036854775807) (hl : ∀ (j : Nat) (r : Int), l[j]? = some r → r ≤ 9223372036854775807)
    (hn2 : pls.length = n2) (hp2 : 0 < n2 → q2 = some ⟨g2, off2, none⟩) (hg2 : 0 < n2 → g2 < w.heap.size) (hr2 : Row2 w g2 off2 pls) :
    Calls Try.prog 23 #[Opv s0 s1 t key s4, .slice q n cap, .int .i64 sh, .slice q2 n2 cap2] w fun e w' => e = .returned (.bool (covL pls (idL t key sh l))) ∧ Below w.heap.size w w' := by
  go_enter Try.func23, Try.ntmps23
  go_upto_region 1 with fail
  obtain ⟨A, hE, hO, hX, hw⟩ := blk2 w #[.int .i64 s0, .int .i64 s1, .int .i64 t, .int .i64 key, .int .i64 s4] #[.slice q2 n2 cap2] 31 33
  rw [hE]
  have hrA := irow_keep hr (by omega) hw
  have hgA : 0 < n → g < A.heap.size := fun h => Nat.lt_of_lt_of_le (hg h) hw.size
  have hrA2 := row2_keep hr2 (by omega) hw
  have hgA2 : 0 < n2 → g2 < A.heap.size := fun h => Nat.lt_of_lt_of_le (hg2 h) hw.size
  obtain ⟨z0, z1, z2, z3, z4⟩ := hO.five
  clear hE hr hg hr2 hg2
  go_upto_region 3 with (go_at_call 18; refine (ids_any s0 s1 t key s4 q g off n cap l sh A hn hb hp hgA hrA t0 t1 k0 k1 h1 hl).mono ?_; rintro e W2 ⟨v, rfl, hown, hv, b2⟩)
  obtain ⟨hlen, q3, g3, cap3, rfl, hq3, hg3, -, -, -, -, hr3, -⟩ := own_row3 hown
  have hrB2 := row2_keep hrA2 (by omega) b2
  have hgB2 : 0 < n2 → g2 < W2.heap.size := fun h => Nat.lt_of_lt_of_le (hgA2 h) b2.size
  have hX2 := (hX.keep b2).at (i := 0) rfl
  have hXl := (hX.keep b2).lt
  have hw2 := ab_trans hw b2
  clear hO hX hw b2 hrA hgA hrA2 hgA2 z0 z1 z2 z3 z4 hown hv hp hl
  by_cases c : n = 0
  · have HV : Hid (covL pls (idL t key sh l) = false) := by show _ = _; unfold covL; rw [hlen, c]; rfl
    subst c
    clear hr3 hrB2
    go_wp2_with fail
    go_ret
    exact ⟨by rw [HV.out]; rfl, hw2⟩
  · have HV : Hid (covL pls (idL t key sh l) = (idL t key sh l).all (cov1 pls)) := by
      show _ = _; unfold covL; rw [hlen, decide_eq_true (by omega)]; simp
    have h0 : 0 < n := by omega
    have h0i : (0 : Int) < (n : Int) := by omega
    obtain rfl := hq3 h0
    clear hq3
    go_wp2_with (go_at_call 33; refine (contains_any _ g3 0 n cap3 (idL t key sh l) (w.heap.size + 1) q2 g2 off2 n2 cap2 pls W2 hlen (fun _ => rfl) hg3 hr3 hb hX2 hXl hn2 hp2 hgB2 hrB2).mono ?_; rintro e W3 ⟨rfl, b3⟩)
    go_ret
    exact ⟨by rw [HV.out]; rfl, ab_trans hw2 b3⟩
end Go.Proofs.Ytffgndmcamedaaa
