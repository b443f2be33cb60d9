/-
  tape's small functions: New, Sure, Steps, Down, room, Read, comes, step, fit.
-/
import Derived.Test.YtalbiggmmmkclaaTpM
namespace Go.Proofs.Ytalbiggmmmkclaa
open Go.RowKit
set_option linter.unusedVariables false

abbrev tptr (b : Nat) : Value := .pointer (some ⟨b, 0, none⟩)
/-- A new tape. -/
abbrev ts0 : TS := ⟨[], 0, 0, false, 0, false, 0, false⟩
theorem new_any (w : World) : Calls Try.prog 11 #[] w fun e w' => e = .returned (tptr w.heap.size) ∧ Tp w' w.heap.size w.heap.size (.slice none 0 0) ts0 ∧ Below w.heap.size w w' := by
  go_enter Try.func11, Try.ntmps11
  go_wp2_with fail
  go_ret
  exact ⟨rfl, ⟨Nat.le_refl _, Blk.new _ _ _, World.ownsRow_nil _ _ _ _, Nat.le_refl _, by simp, by simp, by simp⟩, (Below.refl _ _).alloc (Nat.le_refl _) _⟩
theorem steps_any (b : Nat) (n : Int) (w : World) (c2 : w.cell? ⟨b, 2, none⟩ = some (.int .i64 n)) :
    Calls Try.prog 33 #[tptr b] w fun e w' => e = .returned (.int .i64 n) ∧ w' = w := by
  go_enter Try.func33, Try.ntmps33
  go_wp2_with fail
  go_ret
  exact ⟨rfl, rfl⟩
theorem down_any (b : Nat) (x : Bool) (w : World) (c7 : w.cell? ⟨b, 7, none⟩ = some (.bool x)) :
    Calls Try.prog 35 #[tptr b] w fun e w' => e = .returned (.bool x) ∧ w' = w := by
  go_enter Try.func35, Try.ntmps35
  go_wp2_with fail
  go_ret
  exact ⟨rfl, rfl⟩
theorem room_any (b : Nat) (q : Option Addr) (n cap : Nat) (w : World) (c0 : w.cell? ⟨b, 0, none⟩ = some (.slice q n cap)) (hn : n ≤ 1048576) :
    Calls Try.prog 59 #[tptr b] w fun e w' => e = .returned (.int .i64 ((1048576 - n : Nat) : Int)) ∧ w' = w := by
  go_enter Try.func59, Try.ntmps59
  go_wp2_with fail
  go_ret
  exact ⟨ret_int (by omega), rfl⟩
theorem tread_any (base b : Nat) (v : Value) (S : TS) (w : World) (h : Tp w base b v S) :
    Calls Try.prog 32 #[tptr b] w fun e w' => ∃ v', e = .returned v' ∧ Ow w' w.heap.size v' S.l ∧ Below w.heap.size w w' := by
  have c0 := h.oct.c0
  have hs := h.sl
  have hm := h.max
  go_enter Try.func32, Try.ntmps32
  go_wp2_with (go_at_call 47; refine (clone_big _ _ _ hs (by omega)).mono ?_; rintro e W1 ⟨v1, rfl, hown, hb⟩)
  go_ret
  exact ⟨_, rfl, ow_of hown, hb⟩
theorem comes_no (b o : Nat) (w : World) (c : w.cell? ⟨b, o, none⟩ = some (.bool false)) :
    Calls Try.prog 61 #[.pointer (some ⟨b, o, none⟩)] w fun e w' => e = .returned (.bool false) ∧ w' = w := by
  go_enter Try.func61, Try.ntmps61
  go_wp2_with fail
  go_ret
  exact ⟨rfl, rfl⟩
theorem comes_yes (b o : Nat) (w : World) (c : w.cell? ⟨b, o, none⟩ = some (.bool true)) (c' : w.cell? ⟨b, o + 1, none⟩ = some (.int .i64 0)) (f : w.frozen? ⟨b, o, none⟩ = false) (f' : w.frozen? ⟨b, o + 1, none⟩ = false) :
    Calls Try.prog 61 #[.pointer (some ⟨b, o, none⟩)] w fun e w' => e = .returned (.bool true) ∧ w' = (w.setCell ⟨b, o, none⟩ (.bool false)).setCell ⟨b, o + 1, none⟩ (.int .i64 0) := by
  go_enter Try.func61, Try.ntmps61
  go_wp2_with fail
  go_ret
  exact ⟨rfl, rfl⟩
theorem comes_near (b o n : Nat) (w : World) (hn : n < 9223372036854775807) (c : w.cell? ⟨b, o, none⟩ = some (.bool true)) (c' : w.cell? ⟨b, o + 1, none⟩ = some (.int .i64 ((n + 1 : Nat) : Int))) (f : w.frozen? ⟨b, o, none⟩ = false) (f' : w.frozen? ⟨b, o + 1, none⟩ = false) :
    Calls Try.prog 61 #[.pointer (some ⟨b, o, none⟩)] w fun e w' => e = .returned (.bool false) ∧ w' = w.setCell ⟨b, o + 1, none⟩ (.int .i64 ((n : Nat) : Int)) := by
  have h0 : (((n + 1 : Nat) : Int) == 0) = false := by simp; omega
  have h1 : ((n + 1 : Nat) : Int) - 1 = ((n : Nat) : Int) := by omega
  generalize ((n + 1 : Nat) : Int) = N at *
  have hN : N = n + 1 := by omega
  go_enter Try.func61, Try.ntmps61
  go_wp2_with fail
  go_ret
  exact ⟨rfl, rfl⟩
end Go.Proofs.Ytalbiggmmmkclaa
