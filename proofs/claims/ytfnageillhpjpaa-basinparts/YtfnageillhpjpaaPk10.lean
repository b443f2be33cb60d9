/-
  What floor's calls on wide numbers return: Of, Add, Neg.
  What the document's own Div and Mod return at every number.
  Which sample is later: cmp.Compare, cmp.Or at numbers, cell.Later and the document's Later.
  The document's wide numbers as rows of sixteen bytes: what estuaryref01.Bytes and Wide return.
  What the document's Of returns at every number.
-/
import Derived.Test.YtfnageillhpjpaaPk08
import Derived.Laws.Externs
import Derived.Deep.RegionHeld3
import Derived.Test.YtfnageillhpjpaaPk07
namespace Go.Proofs.Ytfnageillhpjpaa
set_option maxRecDepth 100000
open Go.RowKit
set_option linter.unusedVariables false

/-- Below a mark all cells and marks read as before. -/
theorem bcell {W w1 : World} (hb : Below W.heap.size W w1) : (∀ b o, b < W.heap.size → w1.cell? ⟨b, o, none⟩ = W.cell? ⟨b, o, none⟩) ∧ (∀ b o, b < W.heap.size → w1.frozen? ⟨b, o, none⟩ = W.frozen? ⟨b, o, none⟩) :=
  ⟨fun b o h => hb.cell (p := ⟨b, o, none⟩) h, fun b o h => hb.frozen (p := ⟨b, o, none⟩) h⟩

theorem ab_trans {a b c : World} (h : Below a.heap.size a b) (k : Below b.heap.size b c) : Below a.heap.size a c := h.trans (k.mono h.size)
theorem ab_alloc {a w : World} (h : Below a.heap.size a w) (o : Obj) : Below a.heap.size a (w.alloc o) := h.alloc h.size o
theorem ab_drewN {a w : World} (h : Below a.heap.size a w) (n : Nat) : Below a.heap.size a (w.drewN n) := below_drewN h n
theorem ab_set {a w : World} (h : Below a.heap.size a w) {p : Addr} (hp : a.heap.size ≤ p.block) (u : Value) : Below a.heap.size a (w.setCell p u) := h.setCell hp u
theorem ab_drew {a w : World} (h : Below a.heap.size a w) : Below a.heap.size a w.drew := h.drew

theorem undrew {a w : World} (h : Below a.drew.heap.size a.drew w) : Below a.heap.size a w := ⟨h.os, h.tape, h.output, h.size, h.block⟩
/-- Two blocks of two cells: what they hold behind a call that turned nothing below. -/
theorem blocks2 {w w2 : World} {c0 c1 d0 d1 : Value} {T U : TypeId} (hb : Below ((w.alloc (.cells #[c0, c1] T)).alloc (.cells #[d0, d1] U)).heap.size ((w.alloc (.cells #[c0, c1] T)).alloc (.cells #[d0, d1] U)) w2) :
    w2.cell? ⟨w.heap.size, 0, none⟩ = some c0 ∧ w2.cell? ⟨w.heap.size, 1, none⟩ = some c1 ∧ w2.cell? ⟨w.heap.size + 1, 0, none⟩ = some d0 ∧ w2.cell? ⟨w.heap.size + 1, 1, none⟩ = some d1 ∧
    w2.frozen? ⟨w.heap.size + 1, 0, none⟩ = false ∧ w2.frozen? ⟨w.heap.size + 1, 1, none⟩ = false ∧ w.heap.size + 1 < w2.heap.size :=
  ⟨(hb.cell (p := ⟨w.heap.size, 0, none⟩) (by simp; omega)).trans (by simp [go_sem]), (hb.cell (p := ⟨w.heap.size, 1, none⟩) (by simp; omega)).trans (by simp [go_sem]),
   (hb.cell (p := ⟨w.heap.size + 1, 0, none⟩) (by simp)).trans (by simp [go_sem]), (hb.cell (p := ⟨w.heap.size + 1, 1, none⟩) (by simp)).trans (by simp [go_sem]),
   (hb.frozen (p := ⟨w.heap.size + 1, 0, none⟩) (by simp)).trans (by simp [go_sem]), (hb.frozen (p := ⟨w.heap.size + 1, 1, none⟩) (by simp)).trans (by simp [go_sem]),
   by have := hb.size; simp at this; omega⟩
theorem size2 (w : World) (o o' : Obj) : ((w.alloc o).alloc o').heap.size = w.heap.size + 2 := by simp

theorem add64_run (x y c : Int) (w : World) (hx : 0 ≤ x) (hy : 0 ≤ y) (hc0 : 0 ≤ c) (hc : c ≤ 1) :
    (callFunc 84 #[.int .u64 x, .int .u64 y, .int .u64 c]).run Try.prog w =
      .ok (.value (.tuple #[.int .u64 ((x + y + c) % 18446744073709551616), .int .u64 ((x + y + c) / 18446744073709551616)])) w := by
  rw [run_callFunc_extern Try.func84 (by kernel_rfl) (by kernel_rfl) (by kernel_rfl) (e := add64Entry) (by kernel_rfl), run_add64 x y c hx hy hc0 hc]
  rfl

set_option maxHeartbeats 400000 in
theorem of_any (n : Int) (w : World) (h0 : -9223372036854775808 ≤ n) (h1 : n ≤ 9223372036854775807) :
    Calls Try.prog 62 #[.int .i64 n] w fun e w' => e = .returned (.agg #[.int .i64 (wh n), .int .u64 (wl n)]) ∧ Below w.heap.size w w' := by
  have HF : Hid (sgn n = wh n ∧ IntKind.u64.wrap n = wl n) := by
    show _ ∧ _; rw [IntKind.wrap_u64]; unfold sgn wh wl; constructor
    · split <;> omega
    · rfl
  go_enter Try.func62, Try.ntmps62
  go_wp2_with fail
  refine (spread_any _ _ h0 h1).mono ?_
  rintro e w' ⟨rfl, rfl⟩
  go_wp2_with fail
  exact bodyPost_ret (v := .agg #[.int .i64 (sgn n), .int .u64 (IntKind.u64.wrap n)]) (by simp [results, Try.results62, go_sem]) rfl ⟨by rw [HF.out.1, HF.out.2], (Below.refl _ _).alloc (Nat.le_refl _) _⟩

theorem of_one (w : World) :
    Calls Try.prog 62 #[.int .i64 1] w fun e w' => e = .returned (.agg #[.int .i64 0, .int .u64 1]) ∧ Below w.heap.size w w' := of_any 1 w (by omega) (by omega)
theorem of_zero (w : World) :
    Calls Try.prog 62 #[.int .i64 0] w fun e w' => e = .returned (.agg #[.int .i64 0, .int .u64 0]) ∧ Below w.heap.size w w' := of_any 0 w (by omega) (by omega)
theorem u64_wrap_bd (n : Int) : 0 ≤ IntKind.u64.wrap n ∧ IntKind.u64.wrap n ≤ 18446744073709551615 := by rw [IntKind.wrap_u64]; omega

set_option maxHeartbeats 400000 in
theorem wide_any (hi lo : Int) (w : World) (h0 : 0 ≤ hi) (h1 : hi ≤ 18446744073709551615) (l0 : 0 ≤ lo) (l1 : lo ≤ 18446744073709551615) :
    Calls Try.prog 85 #[.int .u64 hi, .int .u64 lo] w fun e w' => e = .returned (.agg #[.int .i64 (wrap64 hi), .int .u64 lo]) ∧ Below w.heap.size w w' := by
  go_enter Try.func85, Try.ntmps85
  go_wp2_with fail
  exact bodyPost_ret (v := .agg #[.int .i64 (wrap64 hi), .int .u64 lo]) (by simp [results, Try.results85, go_sem]) rfl ⟨rfl, (Below.refl _ _).alloc (Nat.le_refl _) _⟩

set_option maxHeartbeats 400000 in
theorem add_any (ah al bh bl : Int) (w : World) (h0 : -9223372036854775808 ≤ ah) (h1 : ah ≤ 9223372036854775807) (l0 : 0 ≤ al) (l1 : al ≤ 18446744073709551615)
    (g0 : -9223372036854775808 ≤ bh) (g1 : bh ≤ 9223372036854775807) (m0 : 0 ≤ bl) (m1 : bl ≤ 18446744073709551615) :
    Calls Try.prog 76 #[.agg #[.int .i64 ah, .int .u64 al], .agg #[.int .i64 bh, .int .u64 bl]] w fun e w' =>
      e = .returned (.agg #[.int .i64 (wh (wv ah al + wv bh bl)), .int .u64 (wl (wv ah al + wv bh bl))]) ∧ Below w.heap.size w w' := by
  have A1 := fun W => add64_run al bl 0 W l0 m0 (by omega) (by omega)
  have A2 := fun W => add64_run (IntKind.u64.wrap ah) (IntKind.u64.wrap bh) ((al + bl) / 18446744073709551616) W (u64_wrap_bd ah).1 (u64_wrap_bd bh).1 (by omega) (by omega)
  have HF : Hid (wrap64 ((IntKind.u64.wrap ah + IntKind.u64.wrap bh + (al + bl) / 18446744073709551616) % 18446744073709551616) = wh (wv ah al + wv bh bl) ∧ (al + bl) % 18446744073709551616 = wl (wv ah al + wv bh bl)) := by
    show _ ∧ _; unfold wrap64 wh wl wv; rw [IntKind.wrap_u64, IntKind.wrap_u64]; omega
  go_enter Try.func76, Try.ntmps76
  go_wp2_with fail
  clear A1 A2
  refine (wide_any _ _ _ (by omega) (by omega) (by omega) (by omega)).mono ?_
  rintro e w' ⟨rfl, hb⟩
  rw [HF.out.1, HF.out.2]
  obtain ⟨hc, hf⟩ := bcell hb
  have hz : w.heap.size + 1 + 1 < w'.heap.size := by have := hb.size; simp at this; omega
  go_wp2_with fail
  refine bodyPost_ret (v := .agg #[.int .i64 (wh (wv ah al + wv bh bl)), .int .u64 (wl (wv ah al + wv bh bl))]) (by simp [results, Try.results76, go_sem, hc]) rfl ⟨rfl, ?_⟩
  repeat (first | exact Below.refl _ _ | refine ab_set ?_ (by dsimp only; omega) _ | refine ab_alloc ?_ _ | refine ab_trans ?_ hb)

end Go.Proofs.Ytfnageillhpjpaa
namespace Go.Proofs.Ytfnageillhpjpaa
set_option maxRecDepth 100000
open Go.RowKit
set_option linter.unusedVariables false

theorem ref_div (t r : Int) (ht : t < 0) (hr : 1 ≤ r) : (t + 1).tdiv r - 1 = t / r := by
  have h := tdiv_fl (t + 1) r hr
  have m := tmod_fl (t + 1) r hr
  have b := tmod_bd (t + 1) r hr
  have e1 := Int.mul_ediv_add_emod (t + 1) r
  have e2 := Int.mul_ediv_add_emod t r
  have p1 := Int.emod_nonneg (t + 1) (b := r) (by omega)
  have p2 := Int.emod_lt_of_pos (t + 1) (b := r) (by omega)
  have p3 := Int.emod_nonneg t (b := r) (by omega)
  have p4 := Int.emod_lt_of_pos t (b := r) (by omega)
  have key : t / r = (t + 1) / r - (if (t + 1) % r = 0 then 1 else 0) := by
    split
    · rename_i z
      have : t = r * ((t + 1) / r - 1) + (r - 1) := by rw [Int.mul_sub]; omega
      refine (Int.ediv_emod_unique (a := t) (b := r) (r := r - 1) (by omega)).2 ⟨?_, by omega, by omega⟩ |>.1
      omega
    · rename_i z
      refine (Int.ediv_emod_unique (a := t) (b := r) (r := (t + 1) % r - 1) (by omega)).2 ⟨?_, by omega, by omega⟩ |>.1
      simp only [Int.sub_zero]; omega
  have neg : (t + 1).tmod r ≤ 0 := by
    rw [Int.tmod_eq_emod]
    have h6 : r ∣ (t + 1) ↔ (t + 1) % r = 0 := Int.dvd_iff_emod_eq_zero
    split
    · rename_i c; rcases c with c | c
      · have : t + 1 = 0 := by omega
        rw [this]; simp
      · have := h6.1 c; omega
    · omega
  rw [key]
  by_cases z : (t + 1).tmod r < 0
  · rw [if_pos z] at h m
    rw [if_neg (by omega)]; omega
  · rw [if_neg z] at h m
    rw [if_pos (by omega)]; omega

theorem ref_mod (t r : Int) (ht : t < 0) (hr : 1 ≤ r) : r - 1 - (-(t + 1)) % r = t % r := by
  have e1 := Int.mul_ediv_add_emod (-(t + 1)) r
  have p1 := Int.emod_nonneg (-(t + 1)) (b := r) (by omega)
  have p2 := Int.emod_lt_of_pos (-(t + 1)) (b := r) (by omega)
  have := (Int.ediv_emod_unique (a := t) (b := r) (r := r - 1 - (-(t + 1)) % r) (q := - ((-(t + 1)) / r) - 1) (by omega)).2 ⟨by rw [Int.mul_sub, Int.mul_neg]; omega, by omega, by omega⟩
  exact this.2.symm

set_option maxHeartbeats 400000 in
theorem rdiv_any (t r : Int) (w : World) (h0 : -9223372036854775808 ≤ t) (h1 : t ≤ 9223372036854775807) (g1 : r ≤ 9223372036854775807) :
    Calls Try.prog 28 #[.int .i64 t, .int .i64 r] w fun e w' => e = .returned (.int .i64 (flD t r)) ∧ w' = w := by
  by_cases g : r < 1
  · have hf : flD t r = 0 := by unfold flD; rw [if_pos g]
    rw [hf]; clear hf
    go_enter Try.func28, Try.ntmps28
    go_wp2
    go_ret
    exact ⟨rfl, rfl⟩
  · by_cases c : 0 ≤ t
    · have HF : Hid (t / r = flD t r) := by show _ = _; unfold flD; rw [if_neg g]
      go_enter Try.func28, Try.ntmps28
      go_wp2
      go_ret
      exact ⟨ret_int HF.out, rfl⟩
    · have HF : Hid (wrap64 ((t + 1).tdiv r - 1) = flD t r) := by
        have b := flD_bd t r h0 h1
        show _ = _; rw [ref_div t r (by omega) (by omega)]; unfold flD at *; rw [if_neg g] at *; exact IntWalk.wrap64_in _ ⟨by omega, by omega⟩
      go_enter Try.func28, Try.ntmps28
      go_wp2
      go_ret
      exact ⟨ret_int HF.out, rfl⟩

set_option maxHeartbeats 400000 in
theorem rmod_any (t r : Int) (w : World) (h0 : -9223372036854775808 ≤ t) (h1 : t ≤ 9223372036854775807) (g1 : r ≤ 9223372036854775807) :
    Calls Try.prog 27 #[.int .i64 t, .int .i64 r] w fun e w' => e = .returned (.int .i64 (flM t r)) ∧ w' = w := by
  by_cases g : r < 1
  · have hf : flM t r = 0 := by unfold flM; rw [if_pos g]
    rw [hf]; clear hf
    go_enter Try.func27, Try.ntmps27
    go_wp2
    go_ret
    exact ⟨rfl, rfl⟩
  · by_cases c : 0 ≤ t
    · have HF : Hid (t % r = flM t r) := by show _ = _; unfold flM; rw [if_neg g]
      go_enter Try.func27, Try.ntmps27
      go_wp2
      go_ret
      exact ⟨ret_int HF.out, rfl⟩
    · have HF : Hid (wrap64 (r - 1 + (t + 1).tmod r) = flM t r) := by
        have b := flM_bd t r g1
        have e : (t + 1).tmod r = - ((-(t + 1)) % r) := by
          have := Int.neg_tmod (-(t + 1)) r
          rw [Int.neg_neg] at this; rw [this, Int.tmod_eq_emod_of_nonneg (by omega)]
        have m := ref_mod t r (by omega) (by omega)
        show _ = _; rw [e]; unfold flM at *; rw [if_neg g] at *; rw [show r - 1 + -(-(t + 1) % r) = t % r by omega]; exact IntWalk.wrap64_in _ ⟨by omega, by omega⟩
      go_enter Try.func27, Try.ntmps27
      go_wp2
      go_ret
      exact ⟨ret_int HF.out, rfl⟩
end Go.Proofs.Ytfnageillhpjpaa
namespace Go.Proofs.Ytfnageillhpjpaa
set_option maxRecDepth 100000
open Go.RowKit
set_option linter.unusedVariables false

def cmpI (x y : Int) : Int := if x < y then -1 else if y < x then 1 else 0
theorem cmpI_lt {x y : Int} (h : x < y) : cmpI x y = -1 := by simp [cmpI, h]
theorem cmpI_gt {x y : Int} (h : y < x) : cmpI x y = 1 := by unfold cmpI; rw [if_neg (by omega), if_pos h]
theorem cmpI_eq (x : Int) : cmpI x x = 0 := by simp [cmpI]
def firstNZ : List Int → Int
  | [] => 0
  | x :: r => if x = 0 then firstNZ r else x
theorem firstNZ_at (l : List Int) : ∀ k : Nat, (∀ j, j < k → l[j]? = some 0) → ∀ x, l[k]? = some x → x ≠ 0 → firstNZ l = x := by
  induction l with
  | nil => intro k _ x h; simp at h
  | cons y r ih =>
    intro k hz x hx hn
    cases k with
    | zero => simp at hx; subst hx; simp [firstNZ, hn]
    | succ k =>
      have h0 := hz 0 (by omega)
      simp at h0; subst h0
      simp only [firstNZ, if_pos]
      exact ih k (fun j hj => by have := hz (j + 1) (by omega); simpa using this) x (by simpa using hx) hn
theorem firstNZ_zero (l : List Int) : (∀ j, j < l.length → l[j]? = some 0) → firstNZ l = 0 := by
  induction l with
  | nil => intro _; rfl
  | cons y r ih =>
    intro hz
    have h0 := hz 0 (by simp)
    simp at h0; subst h0
    simp only [firstNZ, if_pos]
    exact ih (fun j hj => by have := hz (j + 1) (by simp; omega); simpa using this)

/-- a is later than b. -/
def ltr (a0 a1 a2 a3 b0 b1 b2 b3 : Int) : Bool := decide (b0 < a0 ∨ (a0 = b0 ∧ (b1 < a1 ∨ (a1 = b1 ∧ (b2 < a2 ∨ (a2 = b2 ∧ b3 < a3))))))
theorem ltr_cmp (a0 a1 a2 a3 b0 b1 b2 b3 : Int) : decide (0 < firstNZ [cmpI a0 b0, cmpI a1 b1, cmpI a2 b2, cmpI a3 b3]) = ltr a0 a1 a2 a3 b0 b1 b2 b3 := by
  unfold ltr
  have key : ∀ (x y : Int) (r : List Int) (p : Prop) [Decidable p], decide (0 < firstNZ r) = decide p → decide (0 < firstNZ (cmpI x y :: r)) = decide (y < x ∨ (x = y ∧ p)) := by
    intro x y r p _ h
    rcases Int.lt_trichotomy x y with c | c | c
    · rw [cmpI_lt c]; simp [firstNZ]; omega
    · subst c; rw [cmpI_eq]; simp [firstNZ]; simpa using h
    · rw [cmpI_gt c]; simp [firstNZ, c]
  refine key _ _ _ _ (key _ _ _ _ (key _ _ _ _ ?_))
  rcases Int.lt_trichotomy a3 b3 with c | c | c
  · rw [cmpI_lt c]; simp [firstNZ]; omega
  · subst c; rw [cmpI_eq]; simp [firstNZ]
  · rw [cmpI_gt c]; simp [firstNZ, c]

theorem nan_any (x : Int) (w : World) : Calls Try.prog 90 #[.int .i64 x] w fun e w' => e = .returned (.bool false) ∧ w' = w := by
  go_enter Try.func90, Try.ntmps90
  go_wp2_with fail
  go_ret
  exact ⟨rfl, rfl⟩

theorem compare_any (x y : Int) (w : World) : Calls Try.prog 87 #[.int .i64 x, .int .i64 y] w fun e w' => e = .returned (.int .i64 (cmpI x y)) ∧ w' = w := by
  rcases Int.lt_trichotomy x y with c | c | c
  · have d := cmpI_lt c
    go_enter Try.func87, Try.ntmps87
    go_wp2_with (go_at_call 90; refine (nan_any _ _).mono ?_; rintro e w1 ⟨rfl, rfl⟩)
    all_goals first | (exfalso; omega) | skip
    go_ret
    exact ⟨by rw [d]; rfl, rfl⟩
  · subst c
    have d := cmpI_eq x
    go_enter Try.func87, Try.ntmps87
    go_wp2_with (go_at_call 90; refine (nan_any _ _).mono ?_; rintro e w1 ⟨rfl, rfl⟩)
    all_goals first | (exfalso; omega) | skip
    go_ret
    exact ⟨by rw [d]; rfl, rfl⟩
  · have d := cmpI_gt c
    go_enter Try.func87, Try.ntmps87
    go_wp2_with (go_at_call 90; refine (nan_any _ _).mono ?_; rintro e w1 ⟨rfl, rfl⟩)
    all_goals first | (exfalso; omega) | skip
    go_ret
    exact ⟨by rw [d]; rfl, rfl⟩

theorem or_any (b n : Nat) (l : List Int) (w : World) (hn : l.length = n) (hb : n ≤ 1000) (hc : ∀ j x, l[j]? = some x → w.cell? ⟨b, j, none⟩ = some (.int .i64 x)) :
    Calls Try.prog 86 #[.slice (some ⟨b, 0, none⟩) n n] w fun e w' => e = .returned (.int .i64 (firstNZ l)) ∧ w' = w := by
  go_enter Try.func86, Try.ntmps86
  go_wp2_with fail
  go_loop [8] (fun i => ∃ k : Nat, k ≤ n ∧ i = .int .i64 (k : Int) ∧ ∀ j, j < k → l[j]? = some 0) (fun i => n - (intOf i).toNat)
  case atStart => exact ⟨0, by omega, rfl, fun j hj => absurd hj (by omega)⟩
  case round =>
    obtain ⟨k, hk, rfl, hz⟩ := hrel
    by_cases c : k = n
    · subst c
      have HZ : Hid (firstNZ l = 0) := firstNZ_zero l (fun j hj => hz j (by omega))
      clear hz hc
      go_wp2_with fail
      go_ret
      exact ⟨by rw [HZ.out]; rfl, rfl⟩
    · have hlt : k < l.length := by omega
      obtain ⟨x, hx⟩ : ∃ x, l[k]? = some x := ⟨l[k], List.getElem?_eq_getElem hlt⟩
      have hcx := hc k x hx
      have hki : (k : Int) < (n : Int) := by omega
      by_cases z : x = 0
      · subst z
        have HZ : Hid (∀ j, j < k + 1 → l[j]? = some 0) := by
          intro j hj
          by_cases e : j = k
          · subst e; exact hx
          · exact hz j (by omega)
        clear hz hc hx
        go_wp2_with fail
        go_round
        case rel => exact ⟨k + 1, by omega, by go_num, HZ.out⟩
        case measure => simp [intOf]; omega
      · have HZ : Hid (firstNZ l = x) := firstNZ_at l k hz x hx z
        clear hz hc hx
        go_wp2_with fail
        go_ret
        exact ⟨by rw [HZ.out]; rfl, rfl⟩

theorem or_cells {w : World} {b : Nat} {x0 x1 x2 x3 : Int} (h0 : w.cell? ⟨b, 0, none⟩ = some (.int .i64 x0)) (h1 : w.cell? ⟨b, 1, none⟩ = some (.int .i64 x1)) (h2 : w.cell? ⟨b, 2, none⟩ = some (.int .i64 x2)) (h3 : w.cell? ⟨b, 3, none⟩ = some (.int .i64 x3)) :
    ∀ j x, [x0, x1, x2, x3][j]? = some x → w.cell? ⟨b, j, none⟩ = some (.int .i64 x)
  | 0, x, h => by simp at h; subst h; exact h0
  | 1, x, h => by simp at h; subst h; exact h1
  | 2, x, h => by simp at h; subst h; exact h2
  | 3, x, h => by simp at h; subst h; exact h3
  | n + 4, x, h => by simp at h

theorem later_any (a0 a1 a2 a3 b0 b1 b2 b3 : Int) (w : World) :
    Calls Try.prog 77 #[.agg #[.int .i64 a0, .int .i64 a1, .int .i64 a2, .int .i64 a3], .agg #[.int .i64 b0, .int .i64 b1, .int .i64 b2, .int .i64 b3]] w
      fun e w' => e = .returned (.bool (ltr a0 a1 a2 a3 b0 b1 b2 b3)) ∧ Below w.heap.size w w' := by
  rw [← ltr_cmp]
  go_enter Try.func77, Try.ntmps77
  go_wp2_with fail
  go_region_held3 (fun w' => w'.cell? ⟨w.heap.size, 0, none⟩ = some (.int .i64 a0) ∧ w'.cell? ⟨w.heap.size, 1, none⟩ = some (.int .i64 a1) ∧ w'.cell? ⟨w.heap.size, 2, none⟩ = some (.int .i64 a2) ∧ w'.cell? ⟨w.heap.size, 3, none⟩ = some (.int .i64 a3) ∧
      w'.cell? ⟨w.heap.size + 1, 0, none⟩ = some (.int .i64 b0) ∧ w'.cell? ⟨w.heap.size + 1, 1, none⟩ = some (.int .i64 b1) ∧ w'.cell? ⟨w.heap.size + 1, 2, none⟩ = some (.int .i64 b2) ∧ w'.cell? ⟨w.heap.size + 1, 3, none⟩ = some (.int .i64 b3)) (go_keep)
    (first
      | (go_at_call 87; refine (compare_any _ _ _).mono ?_; rintro e w1 ⟨rfl, rfl⟩)
      | (go_at_call 86; refine (or_any (w.heap.size + 1 + 1) 4 [cmpI a0 b0, cmpI a1 b1, cmpI a2 b2, cmpI a3 b3] _ rfl (by omega) (or_cells (by simp [go_sem]) (by simp [go_sem]) (by simp [go_sem]) (by simp [go_sem]))).mono ?_; rintro e w1 ⟨rfl, rfl⟩))
  go_wp2_with fail
  go_ret
  exact ⟨rfl, by first | exact ab_drewN (ab_alloc (ab_alloc (ab_alloc (Below.refl _ _) _) _) _) _ | exact ab_drew (ab_alloc (ab_alloc (ab_alloc (Below.refl _ _) _) _) _) | skip⟩

theorem rlater_any (a0 a1 a2 a3 b0 b1 b2 b3 : Int) (w : World) :
    Calls Try.prog 30 #[.agg #[.int .i64 a0, .int .i64 a1, .int .i64 a2, .int .i64 a3], .agg #[.int .i64 b0, .int .i64 b1, .int .i64 b2, .int .i64 b3]] w
      fun e w' => e = .returned (.bool (ltr a0 a1 a2 a3 b0 b1 b2 b3)) ∧ Below w.heap.size w w' := by
  have B : Below w.heap.size w ((w.alloc (.cells #[.int .i64 a0, .int .i64 a1, .int .i64 a2, .int .i64 a3] 51)).alloc (.cells #[.int .i64 b0, .int .i64 b1, .int .i64 b2, .int .i64 b3] 51)) := ab_alloc (ab_alloc (Below.refl _ _) _) _
  by_cases c0 : a0 = b0
  · subst c0
    by_cases c1 : a1 = b1
    · subst c1
      by_cases c2 : a2 = b2
      · subst c2
        have H : Hid (ltr a0 a1 a2 a3 a0 a1 a2 b3 = decide (b3 < a3)) := by show _ = _; unfold ltr; congr 1; simp
        go_enter Try.func30, Try.ntmps30
        go_wp2_with fail
        go_ret
        exact ⟨by rw [H.out]; rfl, B⟩
      · have H : Hid (ltr a0 a1 a2 a3 a0 a1 b2 b3 = decide (b2 < a2)) := by show _ = _; unfold ltr; congr 1; simp [c2]
        go_enter Try.func30, Try.ntmps30
        go_wp2_with fail
        go_ret
        exact ⟨by rw [H.out]; rfl, B⟩
    · have H : Hid (ltr a0 a1 a2 a3 a0 b1 b2 b3 = decide (b1 < a1)) := by show _ = _; unfold ltr; congr 1; simp [c1]
      go_enter Try.func30, Try.ntmps30
      go_wp2_with fail
      go_ret
      exact ⟨by rw [H.out]; rfl, B⟩
  · have H : Hid (ltr a0 a1 a2 a3 b0 b1 b2 b3 = decide (b0 < a0)) := by show _ = _; unfold ltr; congr 1; simp [c0]
    go_enter Try.func30, Try.ntmps30
    go_wp2_with fail
    go_ret
    exact ⟨by rw [H.out]; rfl, B⟩
end Go.Proofs.Ytfnageillhpjpaa
namespace Go.Proofs.Ytfnageillhpjpaa
set_option maxRecDepth 100000
open Go.RowKit
set_option linter.unusedVariables false

theorem infoIntW : (Try.prog.info? 3).map (fun i => (i.zero, i.size, i.bytes)) = some (some (.int .i64 0), 1, 8) := by kernel_rfl

/-- The first k bytes of a number, the lowest first. -/
def bts (x : Nat) (k : Nat) : List Value := (List.range k).map fun i => .int .i64 ((x / 256 ^ i % 256 : Nat) : Int)

theorem bts_len (x k : Nat) : (bts x k).length = k := by simp [bts]
theorem bts_succ (x k : Nat) : bts x k ++ [.int .i64 ((x / 256 ^ k % 256 : Nat) : Int)] = bts x (k + 1) := by
  unfold bts; rw [List.range_succ, List.map_append]; rfl
theorem step256 (x k : Nat) : x / 256 ^ (k + 1) = x / 256 ^ k / 256 := by rw [Nat.pow_succ, Nat.div_div_eq_div_mul]

theorem low8 (X H L : Nat) (h : X = H * 18446744073709551616 + L) (hL : L < 18446744073709551616) : bts L 8 = bts X 8 := by
  subst h
  unfold bts
  apply List.map_congr_left
  intro i hi
  have hi : i < 8 := by simpa using hi
  congr 2
  match i, hi with
  | 0, _ | 1, _ | 2, _ | 3, _ | 4, _ | 5, _ | 6, _ | 7, _ => omega
theorem high8 (X H L : Nat) (h : X = H * 18446744073709551616 + L) (hL : L < 18446744073709551616) (k : Nat) : X / 256 ^ (8 + k) = H / 256 ^ k := by
  rw [Nat.pow_add, ← Nat.div_div_eq_div_mul, show X / 256 ^ 8 = H by omega]

set_option maxHeartbeats 1000000 in
theorem bytes_any (ah al : Int) (w : World) (h0 : -9223372036854775808 ≤ ah) (h1 : ah ≤ 9223372036854775807) (l0 : 0 ≤ al) (l1 : al ≤ 18446744073709551615) :
    Calls Try.prog 44 #[.agg #[.int .i64 ah, .int .u64 al]] w fun e w' =>
      ∃ v, e = .returned v ∧ w'.ownsRow w.heap.size 3 1 v 16 (bts (wv ah al % 340282366920938463463374607431768211456).toNat 16) ∧ Below w.heap.size w w' := by
  obtain ⟨i0, hi, hz0, hz1, hz2⟩ := info_parts infoIntW
  obtain ⟨X, hX⟩ : ∃ X : Nat, (X : Int) = wv ah al % 340282366920938463463374607431768211456 := ⟨(wv ah al % 340282366920938463463374607431768211456).toNat, by omega⟩
  rw [← hX, Int.toNat_natCast]
  obtain ⟨H, hH⟩ : ∃ H : Nat, IntKind.u64.wrap ah = (H : Int) := ⟨(IntKind.u64.wrap ah).toNat, by rw [IntKind.wrap_u64]; omega⟩
  obtain ⟨L, rfl⟩ := Int.eq_ofNat_of_zero_le l0
  have hHX : X = H * 18446744073709551616 + L := by
    rw [IntKind.wrap_u64] at hH; unfold wv at hX; omega
  have hH1 : H ≤ 18446744073709551615 := by rw [IntKind.wrap_u64] at hH; omega
  have HX : Hid (X = H * 18446744073709551616 + L) := hHX
  clear hX hHX
  go_enter Try.func44, Try.ntmps44
  go_wp2_with fail
  clear hH
  go_loopw [3, 4, 6] (fun v lo i wr => ∃ k y : Nat, k ≤ 8 ∧ i = .int .i64 (k : Int) ∧ lo = .int .u64 (y : Int) ∧ y = L / 256 ^ k ∧ wr.ownsRow w.heap.size 3 1 v k (bts L k) ∧ Below w.heap.size w wr) (fun _ _ i _ => 8 - (intOf i).toNat)
  case atStart => exact ⟨0, L, by omega, rfl, rfl, by simp, World.ownsRow_nil _ _ _ _, ab_alloc (Below.refl _ _) _⟩
  case round =>
    obtain ⟨k, y, hk, rfl, rfl, hy, hown, hnx⟩ := hrel
    have hyl : y ≤ 18446744073709551615 := by have := Nat.div_le_self L (256 ^ k); omega
    have HY : Hid (y = L / 256 ^ k) := hy
    clear hy
    by_cases c : k < 8
    · go_wp2_with (at_builtin; refine wpList_append_own _ rfl _ _ 23 rfl w.heap.size 3 i0 (.int .i64 0) 1 8 Try.underlying23 hi hz0 hz1 hz2 rfl (by decide) _ _ _ rfl (hown.alloc _) ⟨wr.heap.size, 0, none⟩ 1 1 [.int .i64 ((y : Int) % 256)] rfl rfl ?c1 ?c2 ?c3 ?c4 ?c5 ?_)
      case c1 => intro j u hj; match j, hj with | 0, hj => simp at hj; subst hj; simp [Addr.add]
      case c2 => intro u hu; simp at hu; subst hu; rfl
      case c3 => unfold maxLen; omega
      case c4 => omega
      case c5 => have := hnx.size; simp; omega
      intro v' w1 hown' hgrow _
      have hb : Below w.heap.size w w1 := (ab_alloc hnx _).grown hgrow (by have := hnx.size; simp; omega) (fun j hj => (hown.lt j hj).1)
      have R : w1.ownsRow w.heap.size 3 1 v' (k + 1) (bts L (k + 1)) := by
        rw [← bts_succ, ← HY.out]; simpa using hown'
      clear hown' hgrow hown hnx
      go_wp2_with fail
      go_roundw
      case rel => exact ⟨k + 1, y / 256, by omega, by go_num, by go_num, by rw [step256, ← HY.out], R, hb⟩
      case measure => simp [intOf]; omega
    · obtain rfl : k = 8 := by omega
      rw [low8 X H L HX.out (by omega)] at hown
      have HX8 := high8 X H L HX.out (by omega)
      go_wp2_with fail
      clear HY l0 l1 hyl hk c
      obtain ⟨wo, rfl⟩ : ∃ wo : World, wo = wr := ⟨_, rfl⟩
      go_loopw [3, 5, 7] (fun v hi i wr => ∃ k y : Nat, k ≤ 8 ∧ i = .int .i64 (k : Int) ∧ hi = .int .u64 (y : Int) ∧ y = H / 256 ^ k ∧ wr.ownsRow w.heap.size 3 1 v (8 + k) (bts X (8 + k)) ∧ Below w.heap.size w wr) (fun _ _ i _ => 8 - (intOf i).toNat)
      case atStart => exact ⟨0, H, by omega, rfl, rfl, by simp, hown, hnx⟩
      case round =>
        clear hown hnx
        obtain ⟨k, y, hk, rfl, rfl, hy, hown, hnx⟩ := hrel
        have hyl : y ≤ 18446744073709551615 := by have := Nat.div_le_self H (256 ^ k); omega
        have HY : Hid (y = H / 256 ^ k) := hy
        clear hy
        by_cases c : k < 8
        · go_wp2_with (at_builtin; refine wpList_append_own _ rfl _ _ 23 rfl w.heap.size 3 i0 (.int .i64 0) 1 8 Try.underlying23 hi hz0 hz1 hz2 rfl (by decide) _ _ _ rfl (hown.alloc _) ⟨wr.heap.size, 0, none⟩ 1 1 [.int .i64 ((y : Int) % 256)] rfl rfl ?c1 ?c2 ?c3 ?c4 ?c5 ?_)
          case c1 => intro j u hj; match j, hj with | 0, hj => simp at hj; subst hj; simp [Addr.add]
          case c2 => intro u hu; simp at hu; subst hu; rfl
          case c3 => unfold maxLen; omega
          case c4 => omega
          case c5 => have := hnx.size; simp; omega
          intro v' w1 hown' hgrow _
          have hb : Below w.heap.size w w1 := (ab_alloc hnx _).grown hgrow (by have := hnx.size; simp; omega) (fun j hj => (hown.lt j hj).1)
          have R : w1.ownsRow w.heap.size 3 1 v' (8 + (k + 1)) (bts X (8 + (k + 1))) := by
            rw [← Nat.add_assoc, ← bts_succ, HX8 k, ← HY.out]; simpa using hown'
          clear hown' hgrow hown hnx
          go_wp2_with fail
          go_roundw
          case rel => (repeat apply Exists.intro); exact ⟨⟨k + 1, y / 256, by omega, by go_num, by go_num, by rw [step256, ← HY.out], R, hb⟩, rfl⟩
          case measure => simp [intOf]; omega
        · obtain rfl : k = 8 := by omega
          go_wp2_with fail
          go_ret
          exact ⟨_, rfl, hown, hnx⟩

/-- Sixteen cells at the head of a block that may be written. -/
def Row16 (w : World) (g : Nat) (f : Nat → Int) : Prop := g < w.heap.size ∧ (∀ i, i < 16 → w.cell? ⟨g, i, none⟩ = some (.int .i64 (f i))) ∧ ∀ i, i < 16 → w.frozen? ⟨g, i, none⟩ = false

theorem own16 {w : World} {B x : Nat} {v : Value} (h : w.ownsRow B 3 1 v 16 (bts x 16)) :
    ∃ g cap, v = .slice (some ⟨g, 0, none⟩) 16 cap ∧ 16 ≤ cap ∧ cap ≤ maxLen ∧ B ≤ g ∧ Row16 w g (fun i => ((x / 256 ^ i % 256 : Nat) : Int)) := by
  obtain ⟨hl, ⟨rfl, h0⟩ | ⟨g, cap, cur, rfl, hg, hh, hc, hm, hs, ht⟩⟩ := h
  · omega
  · have hlt : g < w.heap.size := by
      rcases Nat.lt_or_ge g w.heap.size with d | d
      · exact d
      · rw [Array.getElem?_eq_none d] at hh; cases hh
    refine ⟨g, cap, rfl, hc, hm, hg, hlt, ?_, ?_⟩
    · intro i hi
      have e : cur.toList[i]? = (bts x 16)[i]? := by
        rw [← ht, List.getElem?_take_of_lt (by omega)]
      unfold World.cell?
      simp only [hh, Option.isSome_none, Bool.false_eq_true, if_false]
      rw [← Array.getElem?_toList, e]
      simp [bts, hi]
    · intro i hi
      unfold World.frozen?
      simp [hh]
end Go.Proofs.Ytfnageillhpjpaa
namespace Go.Proofs.Ytfnageillhpjpaa
set_option maxRecDepth 100000
open Go.RowKit
set_option linter.unusedVariables false

set_option maxHeartbeats 400000 in
theorem rof2_any (n : Int) (w : World) (h0 : -9223372036854775808 ≤ n) (h1 : n ≤ 9223372036854775807) :
    Calls Try.prog 32 #[.int .i64 n] w fun e w' => e = .returned (.agg #[.int .i64 (wh n), .int .u64 (wl n)]) ∧ Below w.heap.size w w' := by
  have HF : Hid (IntKind.u64.wrap n = wl n) := by
    show _ = _; rw [IntKind.wrap_u64]; rfl
  by_cases c : n < 0
  · have HG : Hid (-1 = wh n) := by show _ = _; unfold wh; omega
    go_enter Try.func32, Try.ntmps32
    go_wp2_with fail
    exact bodyPost_ret (v := .agg #[.int .i64 (-1), .int .u64 (IntKind.u64.wrap n)]) (by simp [results, Try.results32, go_sem]) rfl ⟨by rw [HF.out, ← HG.out], (Below.refl _ _).alloc (Nat.le_refl _) _⟩
  · have HG : Hid (0 = wh n) := by show _ = _; unfold wh; omega
    go_enter Try.func32, Try.ntmps32
    go_wp2_with fail
    exact bodyPost_ret (v := .agg #[.int .i64 0, .int .u64 n]) (by simp [results, Try.results32, go_sem]) rfl ⟨by rw [← HG.out, show wl n = n by unfold wl; omega], (Below.refl _ _).alloc (Nat.le_refl _) _⟩

end Go.Proofs.Ytfnageillhpjpaa
