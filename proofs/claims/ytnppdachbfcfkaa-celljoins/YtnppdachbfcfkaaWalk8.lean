/-
  What the document's own calls on wide numbers return: Wide, times, Neg.
-/
import Derived.Test.YtnppdachbfcfkaaWalk7
import Derived.Test.YtnppdachbfcfkaaPlain4
namespace Go.Proofs.Ytnppdachbfcfkaa
open Go.RowKit
set_option linter.unusedVariables false

theorem Row16.keep {w w' : World} {g : Nat} {f : Nat → Int} (h : Row16 w g f) (hb : Below w.heap.size w w') : Row16 w' g f :=
  ⟨Nat.lt_of_lt_of_le h.1 hb.size, fun i hi => by rw [hb.cell (p := ⟨g, i, none⟩) h.1]; exact h.2.1 i hi, fun i hi => by rw [hb.frozen (p := ⟨g, i, none⟩) h.1]; exact h.2.2 i hi⟩
theorem Row16.set {w : World} {g : Nat} {f : Nat → Int} (h : Row16 w g f) (p : Nat) (hp : p < 16) (v : Int) : Row16 (w.setCell ⟨g, p, none⟩ (.int .i64 v)) g (upd f p v) := by
  refine ⟨by simpa using h.1, ?_, fun i hi => by simpa using h.2.2 i hi⟩
  intro i hi
  unfold upd
  by_cases c : i = p
  · subst c; rw [if_pos rfl]; exact World.cell?_setCell_same _ _ _ (h.2.1 i hi)
  · rw [if_neg c, World.cell?_setCell_other _ _ _ _ (by intro e; have := congrArg Addr.off e; dsimp only at this; omega)]; exact h.2.1 i hi
theorem Row16.other {w : World} {g g' : Nat} {f : Nat → Int} (h : Row16 w g f) (hg : g ≠ g') (p : Nat) (v : Value) : Row16 (w.setCell ⟨g', p, none⟩ v) g f := by
  refine ⟨by simpa using h.1, ?_, fun i hi => by simpa using h.2.2 i hi⟩
  intro i hi
  rw [World.cell?_setCell_other _ _ _ _ (by intro e; have := congrArg Addr.block e; dsimp only at this; omega)]; exact h.2.1 i hi
def Byt (f : Nat → Int) : Prop := ∀ i, i < 16 → 0 ≤ f i ∧ f i ≤ 255

theorem pow_bd {y : Int} {k : Nat} (h : 0 ≤ y ∧ y < 256 ^ k) (hk : k ≤ 7) : 0 ≤ y ∧ y ≤ 72057594037927935 := by
  have : (256 : Nat) ^ k ≤ 256 ^ 7 := Nat.pow_le_pow_right (by omega) hk
  rw [← pow_cast] at h
  omega

set_option maxHeartbeats 1000000 in
theorem rwide_any (g cap : Nat) (f : Nat → Int) (w : World) (hr : Row16 w g f) (hf : Byt f) (hc : 16 ≤ cap) (hm : cap ≤ maxLen) :
    Calls Try.prog 35 #[.slice (some ⟨g, 0, none⟩) 16 cap] w fun e w' => e = .returned (.agg #[.int .i64 (wh (P f 16)), .int .u64 (wl (P f 16))]) ∧ Below w.heap.size w w' := by
  have b7 := hor_bd f 7 hf (by omega)
  have b15 := hor_bd f 15 hf (by omega)
  go_enter Try.func35, Try.ntmps35
  go_wp2_with fail
  have hr2 : Row16 (w.alloc (.cells #[.int .i64 0, .int .u64 0] 26)) g f := hr.keep (ab_alloc (Below.refl _ _) _)
  have HF := hor_P f
  go_loop [3, 4, 5] (fun lo hi i => ∃ k p : Nat, k + p = 8 ∧ i = .int .i64 ((p : Int) - 1) ∧ lo = .int .u64 (hor f 7 k) ∧ hi = .int .u64 (hor f 15 k)) (fun _ _ i => (intOf i + 1).toNat)
  case atStart => exact ⟨0, 8, by omega, rfl, rfl, rfl⟩
  case round =>
    obtain ⟨k, p, hk, rfl, rfl, rfl⟩ := hrel
    by_cases c : p = 0
    · subst c
      obtain rfl : k = 8 := by omega
      have HG : Hid (wrap64 (hor f 15 8) = wh (P f 16) ∧ hor f 7 8 = wl (P f 16)) := by
        have x1 := b7 8; have x2 := b15 8
        show _ ∧ _; rw [← HF]; unfold wh wl wrap64; simp only [Int.reducePow] at x1 x2; omega
      have x1 := (b7 8).1; have x2 := (b15 8).1
      clear b7 b15 HF hr2
      go_wp2_with fail
      exact bodyPost_ret (v := .agg #[.int .i64 (wrap64 (hor f 15 8)), .int .u64 (hor f 7 8)]) (by simp [results, Try.results35, go_sem]) rfl ⟨by rw [HG.out.1, HG.out.2], (Below.refl _ _).alloc (Nat.le_refl _) _⟩
    · obtain ⟨q, rfl⟩ : ∃ q, p = q + 1 := ⟨p - 1, by omega⟩
      have c1 := hr2.2.1 q (by omega)
      have c2 := hr2.2.1 (8 + q) (by omega)
      have hq : (q : Int) ≤ 7 := by omega
      have f1 := hf q (by omega)
      have f2 := hf (8 + q) (by omega)
      have y1 := pow_bd (b7 k) (show k ≤ 7 by omega)
      have y2 := pow_bd (b15 k) (show k ≤ 7 by omega)
      have HN1 : Hid (hor f 7 k * 256 + f q = hor f 7 (k + 1)) := by show _ = _; rw [hor, show 7 - k = q by omega]
      have HN2 : Hid (hor f 15 k * 256 + f (8 + q) = hor f 15 (k + 1)) := by show _ = _; rw [hor, show 15 - k = 8 + q by omega]
      clear b7 b15 HF hr2
      go_wp2_with fail
      go_round
      case rel => exact ⟨k + 1, q, by omega, by go_num, congrArg _ HN1.out, congrArg _ HN2.out⟩
      case measure => simp [intOf]

theorem byt_bytes (X : Nat) : Byt (fun i => ((X / 256 ^ i % 256 : Nat) : Int)) := by
  intro i hi; dsimp only; omega
theorem byt_upd {f : Nat → Int} (h : Byt f) (p : Nat) (v : Int) (hv : 0 ≤ v ∧ v ≤ 255) : Byt (upd f p v) := by
  intro i hi; unfold upd; split
  · exact hv
  · exact h i hi

/-- A result's box that nothing was laid into yet. -/
def Slot2 (b : Nat) (w : World) : Prop := b < w.heap.size ∧ w.cell? ⟨b, 0, none⟩ = some (.int .i64 0) ∧ w.cell? ⟨b, 1, none⟩ = some (.int .u64 0) ∧ w.frozen? ⟨b, 0, none⟩ = false ∧ w.frozen? ⟨b, 1, none⟩ = false
theorem Slot2.keep {b : Nat} {w w' : World} (h : Slot2 b w) (hb : Below w.heap.size w w') : Slot2 b w' := by
  obtain ⟨h1, h2, h3, h4, h5⟩ := h
  refine ⟨Nat.lt_of_lt_of_le h1 hb.size, ?_, ?_, ?_, ?_⟩
  · rw [hb.cell (p := ⟨b, 0, none⟩) h1]; exact h2
  · rw [hb.cell (p := ⟨b, 1, none⟩) h1]; exact h3
  · rw [hb.frozen (p := ⟨b, 0, none⟩) h1]; exact h4
  · rw [hb.frozen (p := ⟨b, 1, none⟩) h1]; exact h5
theorem Slot2.other {b g : Nat} {w : World} (h : Slot2 b w) (hg : g ≠ b) (p : Nat) (v : Value) : Slot2 b (w.setCell ⟨g, p, none⟩ v) := by
  obtain ⟨h1, h2, h3, h4, h5⟩ := h
  refine ⟨by simpa using h1, ?_, ?_, by simpa using h4, by simpa using h5⟩
  · rw [World.cell?_setCell_other _ _ _ _ (by intro e; have := congrArg Addr.block e; dsimp only at this; omega)]; exact h2
  · rw [World.cell?_setCell_other _ _ _ _ (by intro e; have := congrArg Addr.block e; dsimp only at this; omega)]; exact h3
theorem prod_bd {x b : Int} (hx : 0 ≤ x ∧ x ≤ 255) (hb : 0 ≤ b ∧ b ≤ 10) : 0 ≤ x * b ∧ x * b ≤ 2550 :=
  ⟨Int.mul_nonneg hx.1 hb.1, by have := Int.mul_le_mul hx.2 hb.2 hb.1 (by omega); omega⟩
theorem wrap_times (A : Int) (X : Nat) (V m b s : Int) (hX : (X : Int) = A % 340282366920938463463374607431768211456) (h : V + m * 340282366920938463463374607431768211456 = (X : Int) * b + s) : wh V = wh (A * b + s) ∧ wl V = wl (A * b + s) := by
  have e : A = X + 340282366920938463463374607431768211456 * (A / 340282366920938463463374607431768211456) := by omega
  generalize A / 340282366920938463463374607431768211456 = q at e
  subst e
  rw [Int.add_mul, show (X : Int) * b + 340282366920938463463374607431768211456 * q * b + s = V + 340282366920938463463374607431768211456 * (m + q * b) by rw [Int.mul_add, Int.mul_assoc]; omega]
  have := wh_congr V (m + q * b)
  exact ⟨this.1.symm, this.2.symm⟩

end Go.Proofs.Ytnppdachbfcfkaa
