/-
  ballot.Prepare and ballot.Accept.
-/
import Derived.Test.YtjmdekddkpadeaaBlB
import Derived.Test.YtjmdekddkpadeaaMvs
namespace Go.Proofs.Ytjmdekddkpadeaa
open Go.RowKit
set_option linter.unusedVariables false

theorem gd_le {r : Rg} (h : gdR r = true) : r.l.length ≤ 32 := by
  refine Classical.byContradiction fun hn => ?_
  unfold gdR at h
  rw [gd_0 hn] at h
  cases h
theorem Io.nil (W : World) (base : Nat) : Io W base (.slice none 0 0) [] := own_nil W base
/-- What a call that answers a register and an error answers. -/
def RgE (W : World) (base : Nat) (r : Rg) (x : Value) (e : Ending) : Prop := ∃ q n c, e = .returned (.tuple #[rV r.p r.a (.slice q n c), x]) ∧ Io W base (.slice q n c) r.l ∧ r.l.length = n
theorem rge_zero (W : World) (base : Nat) (r : Rg) (x y : Value) (hr : r = zR) (hx : x = y) : RgE W base r x (.returned (.tuple #[rV zB zB (.slice none 0 0), y])) := by
  subst hr hx
  exact ⟨none, 0, 0, rfl, Io.nil _ _, rfl⟩
theorem rge_of {W : World} {base : Nat} {p a : Bt} {l : List Int} {v : Value} (r : Rg) (x y : Value) (hr : r = ⟨p, a, l⟩) (hx : x = y) (hv : Io W base v l) : RgE W base r x (.returned (.tuple #[rV p a v, y])) := by
  subst hr hx
  obtain ⟨q, c, e⟩ := hv.is.form
  rw [e] at hv ⊢
  exact ⟨q, _, c, rfl, hv, rfl⟩
theorem rg_one (p a : Bt) (q : Option Addr) (n c : Nat) : (rC p a (.slice q n c)).all (·.oneCell') = true := by simp [Value.oneCell']
theorem bt_one (b : Bt) : (bC b).all (·.oneCell') = true := by simp [Value.oneCell']
section
variable {ops : Array Oper} {rest : List Oper} {o : Oper} {a : Act} {w : World} {Q : Exit → Act → World → Prop}
/-- A register into its box. -/
theorem st_rg (hgd : o.guard = none) {x y : Operand} (ho : o.op = .store 46 x y) {g : Nat} {p0 a0 p1 a1 : Bt} {v0 : Value} {q : Option Addr} {n c : Nat} {t : TypeId} (hB : Blk w g (rC p0 a0 v0) t) (hx : a.eval x = .pointer (some ⟨g, 0, none⟩)) (hy : a.eval y = rV p1 a1 (.slice q n c))
    (h : ∀ W', Blk W' g (rC p1 a1 (.slice q n c)) t → Chg g w W' → wpList Try.prog ops Q rest (a.put o.dst undef) W') : wpList Try.prog ops Q (o :: rest) a w :=
  st_blk hgd ho hB hx hy (info_rg p1 a1 _) rfl (rg_one _ _ _ _ _) h
end
end Go.Proofs.Ytjmdekddkpadeaa
