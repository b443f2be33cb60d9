/-
  What the laws call besides: alive, large, estuarynum.Num.
  What ballot's small calls answer, and the document's: Less, whole, isNone, asks, Next, Good.
-/
import Derived.Test.YtackgngmdcionaaPk22
import Derived.Lib.SmallJoins
import Derived.Test.YtackgngmdcionaaRows
import Derived.Test.YtackgngmdcionaaPk01
import Derived.Test.YtackgngmdcionaaPk23
import Derived.Test.YtackgngmdcionaaPk08
namespace Go.Proofs.Ytackgngmdcionaa
open Go.RowKit
set_option linter.unusedVariables false

theorem ex_nums : strB ([] ++ numsB [0, -1, 1, -300]) = ⟨#[0, 1, 1, 1, 2, 2, 87, 2]⟩ := by decide +kernel
theorem ex_frm : strB (frm ([] : List (List Nat)).flatten) = ⟨#[0, 0, 0, 0, 197, 157, 28, 129]⟩ := by decide +kernel
theorem isl4 (a b c d : Int) (w : World) : (Instr.buildSlice 22 4 #[(0, .int .i64 a), (1, .int .i64 b), (2, .int .i64 c), (3, .int .i64 d)]).run Try.prog w = .ok (.slice (some ⟨w.heap.size, 0, none⟩) 4 4) (w.alloc (.cells (ints [a, b, c, d]).toArray 3)) := by kernel_rfl
/-- What large answers. -/
def LP (ls : List (List Nat)) (e : Ending) : Prop := ∃ r : Bool, e = .returned (.bool r) ∧ (r = false → ls.length ≤ 300 ∧ ls.flatten.length ≤ 65536)
theorem num_nil (w : World) : Calls Try.prog 13 #[.nilIface] w fun e w' => e = .returned (.int .i64 0) ∧ w' = w := by
  go_enter Try.func13, Try.ntmps13
  go_wp2_with fail
  go_ret
  exact ⟨rfl, rfl⟩
theorem ta_err (n : Int) (w : World) : (Instr.typeAssert (Err n) 29 53 true).run Try.prog w = .ok (.tuple #[.int .i64 n, .bool true]) w := by kernel_rfl
theorem num_err (n : Int) (hn : n ≠ 0) (w : World) : Calls Try.prog 13 #[Err n] w fun e w' => e = .returned (.int .i64 n) ∧ w' = w := by
  have h0 : (n == 0) = false := by simp [hn]
  have ht := ta_err n w
  go_enter Try.func13, Try.ntmps13
  go_wp2_with fail
  go_ret
  exact ⟨rfl, rfl⟩
/-- '==' of two errors. -/
theorem eq33 (w : World) : (binOp .eql 29 (Err 3) (Err 3)).run Try.prog w = .ok (.bool true) w := by kernel_rfl
theorem ne33 (w : World) : (binOp .neq 29 (Err 3) (Err 3)).run Try.prog w = .ok (.bool false) w := by kernel_rfl
theorem eq77 (w : World) : (binOp .eql 29 (Err 7) (Err 7)).run Try.prog w = .ok (.bool true) w := by kernel_rfl
theorem eq30 (w : World) : (binOp .eql 29 (Err 3) .nilIface).run Try.prog w = .ok (.bool false) w := by kernel_rfl
theorem ne30 (w : World) : (binOp .neq 29 (Err 3) .nilIface).run Try.prog w = .ok (.bool true) w := by kernel_rfl
theorem ne70 (w : World) : (binOp .neq 29 (Err 7) .nilIface).run Try.prog w = .ok (.bool true) w := by kernel_rfl
theorem ne00 (w : World) : (binOp .neq 29 .nilIface .nilIface).run Try.prog w = .ok (.bool false) w := by kernel_rfl
theorem eq00 (w : World) : (binOp .eql 29 .nilIface .nilIface).run Try.prog w = .ok (.bool true) w := by kernel_rfl
/-- The error of a number. -/
def errV (n : Nat) : Value := if n = 0 then .nilIface else Err n
theorem errV_ok {n : Nat} (h : n = 0) : errV n = .nilIface := if_pos h
theorem errV_no {n : Nat} (h : n ≠ 0) : errV n = Err n := if_neg h
end Go.Proofs.Ytackgngmdcionaa
namespace Go.Proofs.Ytackgngmdcionaa
open Go.RowKit
set_option linter.unusedVariables false

abbrev bC (b : Bt) : Array Value := #[.int .i64 b.n, .int .i64 b.nd, .int .i64 b.lf]
abbrev bV (b : Bt) : Value := .agg (bC b)
abbrev rC (p a : Bt) (v : Value) : Array Value := #[.int .i64 p.n, .int .i64 p.nd, .int .i64 p.lf, .int .i64 a.n, .int .i64 a.nd, .int .i64 a.lf, v]
abbrev rV (p a : Bt) (v : Value) : Value := .agg (rC p a v)
theorem ok_foldB (p : Prop) [Decidable p] (b : Bool) (w : World) : (if p then Result.ok b w else Result.ok false w) = Result.ok (decide p && b) w := by
  by_cases h : p <;> simp [h]

theorem and3 (x y z : Int) : (decide (x = 0) && (decide (y = 0) && decide (z = 0))) = noB ⟨x, y, z⟩ := by
  unfold noB
  rw [Bool.eq_iff_iff]
  simp
theorem wh_1 {b : Bt} (h : ¬ 0 ≤ b.n) : whB b = false := by unfold whB; exact decide_eq_false (by omega)
theorem wh_2 {b : Bt} (h : ¬ 0 ≤ b.nd) : whB b = false := by unfold whB; exact decide_eq_false (by omega)
theorem wh_3 {b : Bt} (h0 : 0 ≤ b.n) (h1 : 0 ≤ b.nd) : decide (0 ≤ b.lf) = whB b := by unfold whB; rw [decide_eq_decide]; omega
section
attribute [local go_sem] ok_foldB
end
/-- Three, seven cells of a block, in every world in which nothing of it has turned. -/
theorem cells3 {W : World} {g : Nat} {b : Bt} {t : TypeId} (h : Blk W g (bC b) t) : (∀ V, Below W.heap.size W V → V.cell? ⟨g, 0, none⟩ = some (.int .i64 b.n)) ∧ (∀ V, Below W.heap.size W V → V.cell? ⟨g, 1, none⟩ = some (.int .i64 b.nd)) ∧ (∀ V, Below W.heap.size W V → V.cell? ⟨g, 2, none⟩ = some (.int .i64 b.lf)) :=
  ⟨fun V hb => (h.keep hb).at rfl, fun V hb => (h.keep hb).at rfl, fun V hb => (h.keep hb).at rfl⟩
theorem cells7 {W : World} {g : Nat} {p a : Bt} {v : Value} {t : TypeId} (h : Blk W g (rC p a v) t) : (∀ V, Below W.heap.size W V → V.cell? ⟨g, 0, none⟩ = some (.int .i64 p.n)) ∧ (∀ V, Below W.heap.size W V → V.cell? ⟨g, 1, none⟩ = some (.int .i64 p.nd)) ∧ (∀ V, Below W.heap.size W V → V.cell? ⟨g, 2, none⟩ = some (.int .i64 p.lf)) ∧
    (∀ V, Below W.heap.size W V → V.cell? ⟨g, 3, none⟩ = some (.int .i64 a.n)) ∧ (∀ V, Below W.heap.size W V → V.cell? ⟨g, 4, none⟩ = some (.int .i64 a.nd)) ∧ (∀ V, Below W.heap.size W V → V.cell? ⟨g, 5, none⟩ = some (.int .i64 a.lf)) ∧ (∀ V, Below W.heap.size W V → V.cell? ⟨g, 6, none⟩ = some v) :=
  ⟨fun V hb => (h.keep hb).at rfl, fun V hb => (h.keep hb).at rfl, fun V hb => (h.keep hb).at rfl, fun V hb => (h.keep hb).at rfl, fun V hb => (h.keep hb).at rfl, fun V hb => (h.keep hb).at rfl, fun V hb => (h.keep hb).at rfl⟩
def nxB (b : Bt) (d f : Int) : Bt := ⟨wrap64 (b.n + 1), d, f⟩
theorem gd_1 {p a : Bt} {n : Nat} (h : whB p = false) : gdN p a n = false := by unfold gdN; rw [h]; rfl
theorem gd_2 {p a : Bt} {n : Nat} (h : whB a = false) : gdN p a n = false := by unfold gdN; rw [h]; simp
theorem gd_3 {p a : Bt} {n : Nat} (h : lt3 p a = true) : gdN p a n = false := by unfold gdN; rw [h]; simp
theorem gd_4 {p a : Bt} {n : Nat} (h1 : whB p = true) (h2 : whB a = true) (h3 : lt3 p a = false) (h4 : noB a = true) : decide (n = 0) = gdN p a n := by unfold gdN; rw [h1, h2, h3, h4]; simp
theorem gd_5 {p a : Bt} {n : Nat} (h1 : whB p = true) (h2 : whB a = true) (h3 : lt3 p a = false) (h4 : noB a = false) : decide (n ≤ 32) = gdN p a n := by unfold gdN; rw [h1, h2, h3, h4]; simp
end Go.Proofs.Ytackgngmdcionaa
