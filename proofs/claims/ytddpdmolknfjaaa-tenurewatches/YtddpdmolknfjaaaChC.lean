/-
  The chapter's examples: estuarylaw10.alive.
-/
import Derived.Test.YtddpdmolknfjaaaChB
import Derived.Lib.SmallJoins
namespace Go.Proofs.Ytddpdmolknfjaaa
open Go.RowKit
set_option linter.unusedVariables false

theorem geqBB (w : World) : (binOp .eql 42 (Err 11) (Err 11)).run Try.prog w = .ok (.bool true) w := by kernel_rfl
theorem geqN0 (w : World) : (binOp .eql 42 .nilIface .nilIface).run Try.prog w = .ok (.bool true) w := by kernel_rfl
theorem gx_1 : doN ⟨2, [], [5]⟩ [] = 0 ∧ doL ⟨2, [], [5]⟩ [] = [5] := by decide +kernel
theorem gx_2 : doN ⟨2, [], [6]⟩ [5] = 11 ∧ doL ⟨2, [], [6]⟩ [5] = [5] := by decide +kernel
theorem gx_3 : doN ⟨1, [], []⟩ [5] = 0 ∧ doL ⟨1, [], []⟩ [5] = [5] := by decide +kernel
theorem gdo_at (c : Cg) (vo vn v : Value) (l m : List Int) (k : Nat) (w : World) (ho : Is w vo c.o) (hn : Is w vn c.n) (hv : Is w v l) (hl : l.length ≤ 100000) (h : doN c l = k ∧ doL c l = m) :
    Calls Try.prog 18 #[cgV c.k vo vn, v] w fun e w' => ∃ q c, e = .returned (.tuple #[.slice q m.length c, errV k]) ∧ Io w' w.heap.size (.slice q m.length c) m ∧ Below w.heap.size w w' := by
  refine (gdo_any c vo vn v l w ho hn hv hl).mono ?_
  rintro e w' ⟨⟨q, n, c, rfl, hO, hn⟩, hb⟩
  rw [h.2] at hO hn
  rw [h.1]
  subst hn
  exact ⟨q, c, rfl, hO, hb⟩
end Go.Proofs.Ytddpdmolknfjaaa
