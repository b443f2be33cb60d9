/-
  What floor's calls on wide numbers return: Of, Add, Neg.
  What the document's own Div and Mod return at every number.
  Which sample is later: cmp.Compare, cmp.Or at numbers, cell.Later and the document's Later.
-/
import Derived.Test.YthmolbcnbcajdaaGreatPk07
import Derived.Laws.Externs
import Derived.Deep.RegionHeld3
namespace Go.Proofs.YthmolbcnbcajdaaGreat
set_option maxRecDepth 100000
open Go.RowKit
set_option linter.unusedVariables false

/-- Below a mark all cells and marks read as before. -/
theorem bcell {W w1 : World} (hb : Below W.heap.size W w1) : (∀ b o, b < W.heap.size → w1.cell? ⟨b, o, none⟩ = W.cell? ⟨b, o, none⟩) ∧ (∀ b o, b < W.heap.size → w1.frozen? ⟨b, o, none⟩ = W.frozen? ⟨b, o, none⟩) :=
  ⟨fun b o h => hb.cell (p := ⟨b, o, none⟩) h, fun b o h => hb.frozen (p := ⟨b, o, none⟩) h⟩

theorem ab_trans {a b c : World} (h : Below a.heap.size a b) (k : Below b.heap.size b c) : Below a.heap.size a c := h.trans (k.mono h.size)
theorem ab_alloc {a w : World} (h : Below a.heap.size a w) (o : Obj) : Below a.heap.size a (w.alloc o) := h.alloc h.size o
theorem ab_drewN {a w : World} (h : Below a.heap.size a w) (n : Nat) : Below a.heap.size a (w.drewN n) := below_drewN h n
theorem ab_set {a w : World} (h : Below a.heap.size a w) {p : Addr} (hp : a.heap.size ≤ p.block) (u : Value) : Below a.heap.size a (w.setCell p u) := h.setCell hp u
theorem ab_drew {a w : World} (h : Below a.heap.size a w) : Below a.heap.size a w.drew := h.drew

theorem undrew {a w : World} (h : Below a.drew.heap.size a.drew w) : Below a.heap.size a w := ⟨h.os, h.tape, h.output, h.size, h.block⟩
/-- Two blocks of two cells: what they hold behind a call that turned nothing below. -/
theorem blocks2 {w w2 : World} {c0 c1 d0 d1 : Value} {T U : TypeId} (hb : Below ((w.alloc (.cells #[c0, c1] T)).alloc (.cells #[d0, d1] U)).heap.size ((w.alloc (.cells #[c0, c1] T)).alloc (.cells #[d0, d1] U)) w2) :
    w2.cell? ⟨w.heap.size, 0, none⟩ = some c0 ∧ w2.cell? ⟨w.heap.size, 1, none⟩ = some c1 ∧ w2.cell? ⟨w.heap.size + 1, 0, none⟩ = some d0 ∧ w2.cell? ⟨w.heap.size + 1, 1, none⟩ = some d1 ∧
    w2.frozen? ⟨w.heap.size + 1, 0, none⟩ = false ∧ w2.frozen? ⟨w.heap.size + 1, 1, none⟩ = false ∧ w.heap.size + 1 < w2.heap.size :=
  ⟨(hb.cell (p := ⟨w.heap.size, 0, none⟩) (by simp; omega)).trans (by simp [go_sem]), (hb.cell (p := ⟨w.heap.size, 1, none⟩) (by simp; omega)).trans (by simp [go_sem]),
   (hb.cell (p := ⟨w.heap.size + 1, 0, none⟩) (by simp)).trans (by simp [go_sem]), (hb.cell (p := ⟨w.heap.size + 1, 1, none⟩) (by simp)).trans (by simp [go_sem]),
   (hb.frozen (p := ⟨w.heap.size + 1, 0, none⟩) (by simp)).trans (by simp [go_sem]), (hb.frozen (p := ⟨w.heap.size + 1, 1, none⟩) (by simp)).trans (by simp [go_sem]),
   by have := hb.size; simp at this; omega⟩
theorem size2 (w : World) (o o' : Obj) : ((w.alloc o).alloc o').heap.size = w.heap.size + 2 := by simp

theorem u64_wrap_bd (n : Int) : 0 ≤ IntKind.u64.wrap n ∧ IntKind.u64.wrap n ≤ 18446744073709551615 := by rw [IntKind.wrap_u64]; omega

end Go.Proofs.YthmolbcnbcajdaaGreat
namespace Go.Proofs.YthmolbcnbcajdaaGreat
set_option maxRecDepth 100000
open Go.RowKit
set_option linter.unusedVariables false

theorem ref_div (t r : Int) (ht : t < 0) (hr : 1 ≤ r) : (t + 1).tdiv r - 1 = t / r := by
  have h := tdiv_fl (t + 1) r hr
  have m := tmod_fl (t + 1) r hr
  have b := tmod_bd (t + 1) r hr
  have e1 := Int.mul_ediv_add_emod (t + 1) r
  have e2 := Int.mul_ediv_add_emod t r
  have p1 := Int.emod_nonneg (t + 1) (b := r) (by omega)
  have p2 := Int.emod_lt_of_pos (t + 1) (b := r) (by omega)
  have p3 := Int.emod_nonneg t (b := r) (by omega)
  have p4 := Int.emod_lt_of_pos t (b := r) (by omega)
  have key : t / r = (t + 1) / r - (if (t + 1) % r = 0 then 1 else 0) := by
    split
    · rename_i z
      have : t = r * ((t + 1) / r - 1) + (r - 1) := by rw [Int.mul_sub]; omega
      refine (Int.ediv_emod_unique (a := t) (b := r) (r := r - 1) (by omega)).2 ⟨?_, by omega, by omega⟩ |>.1
      omega
    · rename_i z
      refine (Int.ediv_emod_unique (a := t) (b := r) (r := (t + 1) % r - 1) (by omega)).2 ⟨?_, by omega, by omega⟩ |>.1
      simp only [Int.sub_zero]; omega
  have neg : (t + 1).tmod r ≤ 0 := by
    rw [Int.tmod_eq_emod]
    have h6 : r ∣ (t + 1) ↔ (t + 1) % r = 0 := Int.dvd_iff_emod_eq_zero
    split
    · rename_i c; rcases c with c | c
      · have : t + 1 = 0 := by omega
        rw [this]; simp
      · have := h6.1 c; omega
    · omega
  rw [key]
  by_cases z : (t + 1).tmod r < 0
  · rw [if_pos z] at h m
    rw [if_neg (by omega)]; omega
  · rw [if_neg z] at h m
    rw [if_pos (by omega)]; omega

theorem ref_mod (t r : Int) (ht : t < 0) (hr : 1 ≤ r) : r - 1 - (-(t + 1)) % r = t % r := by
  have e1 := Int.mul_ediv_add_emod (-(t + 1)) r
  have p1 := Int.emod_nonneg (-(t + 1)) (b := r) (by omega)
  have p2 := Int.emod_lt_of_pos (-(t + 1)) (b := r) (by omega)
  have := (Int.ediv_emod_unique (a := t) (b := r) (r := r - 1 - (-(t + 1)) % r) (q := - ((-(t + 1)) / r) - 1) (by omega)).2 ⟨by rw [Int.mul_sub, Int.mul_neg]; omega, by omega, by omega⟩
  exact this.2.symm

end Go.Proofs.YthmolbcnbcajdaaGreat
namespace Go.Proofs.YthmolbcnbcajdaaGreat
set_option maxRecDepth 100000
open Go.RowKit
set_option linter.unusedVariables false

def cmpI (x y : Int) : Int := if x < y then -1 else if y < x then 1 else 0
theorem cmpI_lt {x y : Int} (h : x < y) : cmpI x y = -1 := by simp [cmpI, h]
theorem cmpI_gt {x y : Int} (h : y < x) : cmpI x y = 1 := by unfold cmpI; rw [if_neg (by omega), if_pos h]
theorem cmpI_eq (x : Int) : cmpI x x = 0 := by simp [cmpI]
def firstNZ : List Int → Int
  | [] => 0
  | x :: r => if x = 0 then firstNZ r else x
theorem firstNZ_at (l : List Int) : ∀ k : Nat, (∀ j, j < k → l[j]? = some 0) → ∀ x, l[k]? = some x → x ≠ 0 → firstNZ l = x := by
  induction l with
  | nil => intro k _ x h; simp at h
  | cons y r ih =>
    intro k hz x hx hn
    cases k with
    | zero => simp at hx; subst hx; simp [firstNZ, hn]
    | succ k =>
      have h0 := hz 0 (by omega)
      simp at h0; subst h0
      simp only [firstNZ, if_pos]
      exact ih k (fun j hj => by have := hz (j + 1) (by omega); simpa using this) x (by simpa using hx) hn
theorem firstNZ_zero (l : List Int) : (∀ j, j < l.length → l[j]? = some 0) → firstNZ l = 0 := by
  induction l with
  | nil => intro _; rfl
  | cons y r ih =>
    intro hz
    have h0 := hz 0 (by simp)
    simp at h0; subst h0
    simp only [firstNZ, if_pos]
    exact ih (fun j hj => by have := hz (j + 1) (by simp; omega); simpa using this)

/-- a is later than b. -/
def ltr (a0 a1 a2 a3 b0 b1 b2 b3 : Int) : Bool := decide (b0 < a0 ∨ (a0 = b0 ∧ (b1 < a1 ∨ (a1 = b1 ∧ (b2 < a2 ∨ (a2 = b2 ∧ b3 < a3))))))
theorem ltr_cmp (a0 a1 a2 a3 b0 b1 b2 b3 : Int) : decide (0 < firstNZ [cmpI a0 b0, cmpI a1 b1, cmpI a2 b2, cmpI a3 b3]) = ltr a0 a1 a2 a3 b0 b1 b2 b3 := by
  unfold ltr
  have key : ∀ (x y : Int) (r : List Int) (p : Prop) [Decidable p], decide (0 < firstNZ r) = decide p → decide (0 < firstNZ (cmpI x y :: r)) = decide (y < x ∨ (x = y ∧ p)) := by
    intro x y r p _ h
    rcases Int.lt_trichotomy x y with c | c | c
    · rw [cmpI_lt c]; simp [firstNZ]; omega
    · subst c; rw [cmpI_eq]; simp [firstNZ]; simpa using h
    · rw [cmpI_gt c]; simp [firstNZ, c]
  refine key _ _ _ _ (key _ _ _ _ (key _ _ _ _ ?_))
  rcases Int.lt_trichotomy a3 b3 with c | c | c
  · rw [cmpI_lt c]; simp [firstNZ]; omega
  · subst c; rw [cmpI_eq]; simp [firstNZ]
  · rw [cmpI_gt c]; simp [firstNZ, c]

theorem or_cells {w : World} {b : Nat} {x0 x1 x2 x3 : Int} (h0 : w.cell? ⟨b, 0, none⟩ = some (.int .i64 x0)) (h1 : w.cell? ⟨b, 1, none⟩ = some (.int .i64 x1)) (h2 : w.cell? ⟨b, 2, none⟩ = some (.int .i64 x2)) (h3 : w.cell? ⟨b, 3, none⟩ = some (.int .i64 x3)) :
    ∀ j x, [x0, x1, x2, x3][j]? = some x → w.cell? ⟨b, j, none⟩ = some (.int .i64 x)
  | 0, x, h => by simp at h; subst h; exact h0
  | 1, x, h => by simp at h; subst h; exact h1
  | 2, x, h => by simp at h; subst h; exact h2
  | 3, x, h => by simp at h; subst h; exact h3
  | n + 4, x, h => by simp at h

end Go.Proofs.YthmolbcnbcajdaaGreat
