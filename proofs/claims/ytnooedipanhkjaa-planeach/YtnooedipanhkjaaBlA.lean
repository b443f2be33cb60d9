/-
  What ballot's small calls answer, and the document's: Less, whole, isNone, asks, Next, Good.
-/
import Derived.Test.YtnooedipanhkjaaRows
import Derived.Test.YtnooedipanhkjaaBlP
import Derived.Test.YtnooedipanhkjaaIsX
import Derived.Test.YtnooedipanhkjaaFrE
import Derived.Test.YtnooedipanhkjaaRegL
namespace Go.Proofs.Ytnooedipanhkjaa
set_option maxRecDepth 100000
open Go.RowKit
set_option linter.unusedVariables false

abbrev bC (b : Bt) : Array Value := #[.int .i64 b.n, .int .i64 b.nd, .int .i64 b.lf]
abbrev bV (b : Bt) : Value := .agg (bC b)
abbrev rC (p a : Bt) (v : Value) : Array Value := #[.int .i64 p.n, .int .i64 p.nd, .int .i64 p.lf, .int .i64 a.n, .int .i64 a.nd, .int .i64 a.lf, v]
abbrev rV (p a : Bt) (v : Value) : Value := .agg (rC p a v)
theorem ok_foldB (p : Prop) [Decidable p] (b : Bool) (w : World) : (if p then Result.ok b w else Result.ok false w) = Result.ok (decide p && b) w := by
  by_cases h : p <;> simp [h]

theorem and3 (x y z : Int) : (decide (x = 0) && (decide (y = 0) && decide (z = 0))) = noB ⟨x, y, z⟩ := by
  unfold noB
  rw [Bool.eq_iff_iff]
  simp
theorem wh_1 {b : Bt} (h : ¬ 0 ≤ b.n) : whB b = false := by unfold whB; exact decide_eq_false (by omega)
theorem wh_2 {b : Bt} (h : ¬ 0 ≤ b.nd) : whB b = false := by unfold whB; exact decide_eq_false (by omega)
theorem wh_3 {b : Bt} (h0 : 0 ≤ b.n) (h1 : 0 ≤ b.nd) : decide (0 ≤ b.lf) = whB b := by unfold whB; rw [decide_eq_decide]; omega
section
attribute [local go_sem] ok_foldB
end
/-- Three, seven cells of a block, in every world in which nothing of it has turned. -/
theorem cells3 {W : World} {g : Nat} {b : Bt} {t : TypeId} (h : Blk W g (bC b) t) : (∀ V, Below W.heap.size W V → V.cell? ⟨g, 0, none⟩ = some (.int .i64 b.n)) ∧ (∀ V, Below W.heap.size W V → V.cell? ⟨g, 1, none⟩ = some (.int .i64 b.nd)) ∧ (∀ V, Below W.heap.size W V → V.cell? ⟨g, 2, none⟩ = some (.int .i64 b.lf)) :=
  ⟨fun V hb => (h.keep hb).at rfl, fun V hb => (h.keep hb).at rfl, fun V hb => (h.keep hb).at rfl⟩
theorem cells7 {W : World} {g : Nat} {p a : Bt} {v : Value} {t : TypeId} (h : Blk W g (rC p a v) t) : (∀ V, Below W.heap.size W V → V.cell? ⟨g, 0, none⟩ = some (.int .i64 p.n)) ∧ (∀ V, Below W.heap.size W V → V.cell? ⟨g, 1, none⟩ = some (.int .i64 p.nd)) ∧ (∀ V, Below W.heap.size W V → V.cell? ⟨g, 2, none⟩ = some (.int .i64 p.lf)) ∧
    (∀ V, Below W.heap.size W V → V.cell? ⟨g, 3, none⟩ = some (.int .i64 a.n)) ∧ (∀ V, Below W.heap.size W V → V.cell? ⟨g, 4, none⟩ = some (.int .i64 a.nd)) ∧ (∀ V, Below W.heap.size W V → V.cell? ⟨g, 5, none⟩ = some (.int .i64 a.lf)) ∧ (∀ V, Below W.heap.size W V → V.cell? ⟨g, 6, none⟩ = some v) :=
  ⟨fun V hb => (h.keep hb).at rfl, fun V hb => (h.keep hb).at rfl, fun V hb => (h.keep hb).at rfl, fun V hb => (h.keep hb).at rfl, fun V hb => (h.keep hb).at rfl, fun V hb => (h.keep hb).at rfl, fun V hb => (h.keep hb).at rfl⟩
def nxB (b : Bt) (d f : Int) : Bt := ⟨wrap64 (b.n + 1), d, f⟩
theorem gd_1 {p a : Bt} {n : Nat} (h : whB p = false) : gdN p a n = false := by unfold gdN; rw [h]; rfl
theorem gd_2 {p a : Bt} {n : Nat} (h : whB a = false) : gdN p a n = false := by unfold gdN; rw [h]; simp
theorem gd_3 {p a : Bt} {n : Nat} (h : lt3 p a = true) : gdN p a n = false := by unfold gdN; rw [h]; simp
theorem gd_4 {p a : Bt} {n : Nat} (h1 : whB p = true) (h2 : whB a = true) (h3 : lt3 p a = false) (h4 : noB a = true) : decide (n = 0) = gdN p a n := by unfold gdN; rw [h1, h2, h3, h4]; simp
theorem gd_5 {p a : Bt} {n : Nat} (h1 : whB p = true) (h2 : whB a = true) (h3 : lt3 p a = false) (h4 : noB a = false) : decide (n ≤ 32) = gdN p a n := by unfold gdN; rw [h1, h2, h3, h4]; simp
end Go.Proofs.Ytnooedipanhkjaa
