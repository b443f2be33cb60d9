/-
  What change's calls answer, and the document's: clone, Same, Check, Do, Read, Swap.
-/
import Derived.Test.YtnooedipanhkjaaRows
import Derived.Test.YtnooedipanhkjaaChP
import Derived.Test.YtnooedipanhkjaaBlB
import Derived.Deep.CutRange
namespace Go.Proofs.Ytnooedipanhkjaa
set_option maxRecDepth 100000
open Go.RowKit
set_option linter.unusedVariables false

abbrev cgC (k : Int) (vo vn : Value) : Array Value := #[.int .i64 k, vo, vn]
abbrev cgV (k : Int) (vo vn : Value) : Value := .agg (cgC k vo vn)
/-- Three cells of a block, in every world in which nothing of it has turned. -/
theorem cellsG {W : World} {g : Nat} {k : Int} {vo vn : Value} {t : TypeId} (h : Blk W g (cgC k vo vn) t) : (∀ V, Below W.heap.size W V → V.cell? ⟨g, 0, none⟩ = some (.int .i64 k)) ∧ (∀ V, Below W.heap.size W V → V.cell? ⟨g, 1, none⟩ = some vo) ∧ (∀ V, Below W.heap.size W V → V.cell? ⟨g, 2, none⟩ = some vn) :=
  ⟨fun V hb => (h.keep hb).at rfl, fun V hb => (h.keep hb).at rfl, fun V hb => (h.keep hb).at rfl⟩
theorem gne20 (w : World) : (binOp .neq 27 (Err 2) .nilIface).run Try.prog w = .ok (.bool true) w := by kernel_rfl
theorem neq00 (w : World) : (binOp .neq 27 .nilIface .nilIface).run Try.prog w = .ok (.bool false) w := by kernel_rfl
theorem gtake_next {α : Type} {l m : List α} {k : Nat} {x y : α} (h : l.take k = m.take k) (hx : l[k]? = some x) (hy : m[k]? = some y) (e : x = y) : l.take (k + 1) = m.take (k + 1) := by
  rw [List.take_add_one, List.take_add_one, h, hx, hy, e]
theorem ret_err {n m : Nat} (h : n = m) : (Ending.returned (errV m)) = .returned (errV n) := by rw [h]
end Go.Proofs.Ytnooedipanhkjaa
