/-
  Which sample is later: cmp.Compare, cmp.Or at numbers, cell.Later and the document's Later.
-/
import Derived.Test.YtnppdachbfcfkaaWalk2
import Derived.Deep.RegionHeld3
namespace Go.Proofs.Ytnppdachbfcfkaa
open Go.RowKit
set_option linter.unusedVariables false

def cmpI (x y : Int) : Int := if x < y then -1 else if y < x then 1 else 0
theorem cmpI_lt {x y : Int} (h : x < y) : cmpI x y = -1 := by simp [cmpI, h]
theorem cmpI_gt {x y : Int} (h : y < x) : cmpI x y = 1 := by unfold cmpI; rw [if_neg (by omega), if_pos h]
theorem cmpI_eq (x : Int) : cmpI x x = 0 := by simp [cmpI]
def firstNZ : List Int → Int
  | [] => 0
  | x :: r => if x = 0 then firstNZ r else x
theorem firstNZ_at (l : List Int) : ∀ k : Nat, (∀ j, j < k → l[j]? = some 0) → ∀ x, l[k]? = some x → x ≠ 0 → firstNZ l = x := by
  induction l with
  | nil => intro k _ x h; simp at h
  | cons y r ih =>
    intro k hz x hx hn
    cases k with
    | zero => simp at hx; subst hx; simp [firstNZ, hn]
    | succ k =>
      have h0 := hz 0 (by omega)
      simp at h0; subst h0
      simp only [firstNZ, if_pos]
      exact ih k (fun j hj => by have := hz (j + 1) (by omega); simpa using this) x (by simpa using hx) hn
theorem firstNZ_zero (l : List Int) : (∀ j, j < l.length → l[j]? = some 0) → firstNZ l = 0 := by
  induction l with
  | nil => intro _; rfl
  | cons y r ih =>
    intro hz
    have h0 := hz 0 (by simp)
    simp at h0; subst h0
    simp only [firstNZ, if_pos]
    exact ih (fun j hj => by have := hz (j + 1) (by simp; omega); simpa using this)

/-- a is later than b. -/
def ltr (a0 a1 a2 a3 b0 b1 b2 b3 : Int) : Bool := decide (b0 < a0 ∨ (a0 = b0 ∧ (b1 < a1 ∨ (a1 = b1 ∧ (b2 < a2 ∨ (a2 = b2 ∧ b3 < a3))))))
theorem ltr_cmp (a0 a1 a2 a3 b0 b1 b2 b3 : Int) : decide (0 < firstNZ [cmpI a0 b0, cmpI a1 b1, cmpI a2 b2, cmpI a3 b3]) = ltr a0 a1 a2 a3 b0 b1 b2 b3 := by
  unfold ltr
  have key : ∀ (x y : Int) (r : List Int) (p : Prop) [Decidable p], decide (0 < firstNZ r) = decide p → decide (0 < firstNZ (cmpI x y :: r)) = decide (y < x ∨ (x = y ∧ p)) := by
    intro x y r p _ h
    rcases Int.lt_trichotomy x y with c | c | c
    · rw [cmpI_lt c]; simp [firstNZ]; omega
    · subst c; rw [cmpI_eq]; simp [firstNZ]; simpa using h
    · rw [cmpI_gt c]; simp [firstNZ, c]
  refine key _ _ _ _ (key _ _ _ _ (key _ _ _ _ ?_))
  rcases Int.lt_trichotomy a3 b3 with c | c | c
  · rw [cmpI_lt c]; simp [firstNZ]; omega
  · subst c; rw [cmpI_eq]; simp [firstNZ]
  · rw [cmpI_gt c]; simp [firstNZ, c]

theorem nan_any (x : Int) (w : World) : Calls Try.prog 36 #[.int .i64 x] w fun e w' => e = .returned (.bool false) ∧ w' = w := by
  go_enter Try.func36, Try.ntmps36
  go_wp2_with fail
  go_ret
  exact ⟨rfl, rfl⟩

theorem compare_any (x y : Int) (w : World) : Calls Try.prog 28 #[.int .i64 x, .int .i64 y] w fun e w' => e = .returned (.int .i64 (cmpI x y)) ∧ w' = w := by
  rcases Int.lt_trichotomy x y with c | c | c
  · have d := cmpI_lt c
    go_enter Try.func28, Try.ntmps28
    go_wp2_with (go_at_call 36; refine (nan_any _ _).mono ?_; rintro e w1 ⟨rfl, rfl⟩)
    all_goals first | (exfalso; omega) | skip
    go_ret
    exact ⟨by rw [d]; rfl, rfl⟩
  · subst c
    have d := cmpI_eq x
    go_enter Try.func28, Try.ntmps28
    go_wp2_with (go_at_call 36; refine (nan_any _ _).mono ?_; rintro e w1 ⟨rfl, rfl⟩)
    all_goals first | (exfalso; omega) | skip
    go_ret
    exact ⟨by rw [d]; rfl, rfl⟩
  · have d := cmpI_gt c
    go_enter Try.func28, Try.ntmps28
    go_wp2_with (go_at_call 36; refine (nan_any _ _).mono ?_; rintro e w1 ⟨rfl, rfl⟩)
    all_goals first | (exfalso; omega) | skip
    go_ret
    exact ⟨by rw [d]; rfl, rfl⟩

theorem or_any (b n : Nat) (l : List Int) (w : World) (hn : l.length = n) (hb : n ≤ 1000) (hc : ∀ j x, l[j]? = some x → w.cell? ⟨b, j, none⟩ = some (.int .i64 x)) :
    Calls Try.prog 27 #[.slice (some ⟨b, 0, none⟩) n n] w fun e w' => e = .returned (.int .i64 (firstNZ l)) ∧ w' = w := by
  go_enter Try.func27, Try.ntmps27
  go_wp2_with fail
  go_loop [8] (fun i => ∃ k : Nat, k ≤ n ∧ i = .int .i64 (k : Int) ∧ ∀ j, j < k → l[j]? = some 0) (fun i => n - (intOf i).toNat)
  case atStart => exact ⟨0, by omega, rfl, fun j hj => absurd hj (by omega)⟩
  case round =>
    obtain ⟨k, hk, rfl, hz⟩ := hrel
    by_cases c : k = n
    · subst c
      have HZ : Hid (firstNZ l = 0) := firstNZ_zero l (fun j hj => hz j (by omega))
      clear hz hc
      go_wp2_with fail
      go_ret
      exact ⟨by rw [HZ.out]; rfl, rfl⟩
    · have hlt : k < l.length := by omega
      obtain ⟨x, hx⟩ : ∃ x, l[k]? = some x := ⟨l[k], List.getElem?_eq_getElem hlt⟩
      have hcx := hc k x hx
      have hki : (k : Int) < (n : Int) := by omega
      by_cases z : x = 0
      · subst z
        have HZ : Hid (∀ j, j < k + 1 → l[j]? = some 0) := by
          intro j hj
          by_cases e : j = k
          · subst e; exact hx
          · exact hz j (by omega)
        clear hz hc hx
        go_wp2_with fail
        go_round
        case rel => exact ⟨k + 1, by omega, by go_num, HZ.out⟩
        case measure => simp [intOf]; omega
      · have HZ : Hid (firstNZ l = x) := firstNZ_at l k hz x hx z
        clear hz hc hx
        go_wp2_with fail
        go_ret
        exact ⟨by rw [HZ.out]; rfl, rfl⟩

theorem or_cells {w : World} {b : Nat} {x0 x1 x2 x3 : Int} (h0 : w.cell? ⟨b, 0, none⟩ = some (.int .i64 x0)) (h1 : w.cell? ⟨b, 1, none⟩ = some (.int .i64 x1)) (h2 : w.cell? ⟨b, 2, none⟩ = some (.int .i64 x2)) (h3 : w.cell? ⟨b, 3, none⟩ = some (.int .i64 x3)) :
    ∀ j x, [x0, x1, x2, x3][j]? = some x → w.cell? ⟨b, j, none⟩ = some (.int .i64 x)
  | 0, x, h => by simp at h; subst h; exact h0
  | 1, x, h => by simp at h; subst h; exact h1
  | 2, x, h => by simp at h; subst h; exact h2
  | 3, x, h => by simp at h; subst h; exact h3
  | n + 4, x, h => by simp at h

theorem later_any (a0 a1 a2 a3 b0 b1 b2 b3 : Int) (w : World) :
    Calls Try.prog 15 #[.agg #[.int .i64 a0, .int .i64 a1, .int .i64 a2, .int .i64 a3], .agg #[.int .i64 b0, .int .i64 b1, .int .i64 b2, .int .i64 b3]] w
      fun e w' => e = .returned (.bool (ltr a0 a1 a2 a3 b0 b1 b2 b3)) ∧ Below w.heap.size w w' := by
  rw [← ltr_cmp]
  go_enter Try.func15, Try.ntmps15
  go_wp2_with fail
  go_region_held3 (fun w' => w'.cell? ⟨w.heap.size, 0, none⟩ = some (.int .i64 a0) ∧ w'.cell? ⟨w.heap.size, 1, none⟩ = some (.int .i64 a1) ∧ w'.cell? ⟨w.heap.size, 2, none⟩ = some (.int .i64 a2) ∧ w'.cell? ⟨w.heap.size, 3, none⟩ = some (.int .i64 a3) ∧
      w'.cell? ⟨w.heap.size + 1, 0, none⟩ = some (.int .i64 b0) ∧ w'.cell? ⟨w.heap.size + 1, 1, none⟩ = some (.int .i64 b1) ∧ w'.cell? ⟨w.heap.size + 1, 2, none⟩ = some (.int .i64 b2) ∧ w'.cell? ⟨w.heap.size + 1, 3, none⟩ = some (.int .i64 b3)) (go_keep)
    (first
      | (go_at_call 28; refine (compare_any _ _ _).mono ?_; rintro e w1 ⟨rfl, rfl⟩)
      | (go_at_call 27; refine (or_any (w.heap.size + 1 + 1) 4 [cmpI a0 b0, cmpI a1 b1, cmpI a2 b2, cmpI a3 b3] _ rfl (by omega) (or_cells (by simp [go_sem]) (by simp [go_sem]) (by simp [go_sem]) (by simp [go_sem]))).mono ?_; rintro e w1 ⟨rfl, rfl⟩))
  go_wp2_with fail
  go_ret
  exact ⟨rfl, by first | exact ab_drewN (ab_alloc (ab_alloc (ab_alloc (Below.refl _ _) _) _) _) _ | exact ab_drew (ab_alloc (ab_alloc (ab_alloc (Below.refl _ _) _) _) _) | skip⟩

theorem rlater_any (a0 a1 a2 a3 b0 b1 b2 b3 : Int) (w : World) :
    Calls Try.prog 16 #[.agg #[.int .i64 a0, .int .i64 a1, .int .i64 a2, .int .i64 a3], .agg #[.int .i64 b0, .int .i64 b1, .int .i64 b2, .int .i64 b3]] w
      fun e w' => e = .returned (.bool (ltr a0 a1 a2 a3 b0 b1 b2 b3)) ∧ Below w.heap.size w w' := by
  have B : Below w.heap.size w ((w.alloc (.cells #[.int .i64 a0, .int .i64 a1, .int .i64 a2, .int .i64 a3] 28)).alloc (.cells #[.int .i64 b0, .int .i64 b1, .int .i64 b2, .int .i64 b3] 28)) := ab_alloc (ab_alloc (Below.refl _ _) _) _
  by_cases c0 : a0 = b0
  · subst c0
    by_cases c1 : a1 = b1
    · subst c1
      by_cases c2 : a2 = b2
      · subst c2
        have H : Hid (ltr a0 a1 a2 a3 a0 a1 a2 b3 = decide (b3 < a3)) := by show _ = _; unfold ltr; congr 1; simp
        go_enter Try.func16, Try.ntmps16
        go_wp2_with fail
        go_ret
        exact ⟨by rw [H.out]; rfl, B⟩
      · have H : Hid (ltr a0 a1 a2 a3 a0 a1 b2 b3 = decide (b2 < a2)) := by show _ = _; unfold ltr; congr 1; simp [c2]
        go_enter Try.func16, Try.ntmps16
        go_wp2_with fail
        go_ret
        exact ⟨by rw [H.out]; rfl, B⟩
    · have H : Hid (ltr a0 a1 a2 a3 a0 b1 b2 b3 = decide (b1 < a1)) := by show _ = _; unfold ltr; congr 1; simp [c1]
      go_enter Try.func16, Try.ntmps16
      go_wp2_with fail
      go_ret
      exact ⟨by rw [H.out]; rfl, B⟩
  · have H : Hid (ltr a0 a1 a2 a3 b0 b1 b2 b3 = decide (b0 < a0)) := by show _ = _; unfold ltr; congr 1; simp [c0]
    go_enter Try.func16, Try.ntmps16
    go_wp2_with fail
    go_ret
    exact ⟨by rw [H.out]; rfl, B⟩
end Go.Proofs.Ytnppdachbfcfkaa
