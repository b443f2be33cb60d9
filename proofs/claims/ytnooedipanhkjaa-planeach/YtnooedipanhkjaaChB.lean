/-
  change.Do, Read, Swap; the document's Do; copies with a mark: estuarylaw10.marked, stands.
-/
import Derived.Test.YtnooedipanhkjaaChA
namespace Go.Proofs.Ytnooedipanhkjaa
set_option maxRecDepth 100000
open Go.RowKit
set_option linter.unusedVariables false

theorem gio_nil (W : World) (base : Nat) : Io W base (.slice none 0 0) [] := own_nil W base
/-- What Do answers: a value and an error. -/
def DoE (W : World) (base : Nat) (l : List Int) (x : Value) (e : Ending) : Prop := ∃ q n c, e = .returned (.tuple #[.slice q n c, x]) ∧ Io W base (.slice q n c) l ∧ l.length = n
theorem doe_of {W : World} {base : Nat} {v : Value} {l m : List Int} {n k : Nat} (hv : Io W base v l) (hl : m = l) (hn : n = k) : DoE W base m (errV n) (.returned (.tuple #[v, errV k])) := by
  subst hl hn
  obtain ⟨q, c, e⟩ := hv.is.form
  subst e
  exact ⟨q, _, c, rfl, hv, rfl⟩
/-- What the document's Do answers. -/
def DoI (W : World) (l : List Int) (x : Nat) (e : Ending) : Prop := ∃ q n c, e = .returned (.tuple #[.slice q n c, .int .i64 (x : Int)]) ∧ Is W (.slice q n c) l ∧ l.length = n
theorem doi_of {W : World} {v : Value} {l m : List Int} {n k : Nat} {K : Int} (hv : Is W v l) (hl : m = l) (hn : n = k) (hK : K = (k : Int)) : DoI W m n (.returned (.tuple #[v, .int .i64 K])) := by
  subst hl hn hK
  obtain ⟨q, c, e⟩ := hv.form
  subst e
  exact ⟨q, _, c, rfl, hv, rfl⟩
theorem cg_one (k : Int) (q1 : Option Addr) (n1 c1 : Nat) (q2 : Option Addr) (n2 c2 : Nat) : (cgC k (.slice q1 n1 c1) (.slice q2 n2 c2)).all (·.oneCell') = true := by simp [Value.oneCell']
section
variable {ops : Array Oper} {rest : List Oper} {o : Oper} {a : Act} {w : World} {Q : Exit → Act → World → Prop}
end
section
variable {ops : Array Oper} {rest : List Oper} {o : Oper} {a : Act} {w : World} {Q : Exit → Act → World → Prop}
/-- append of numbers, up to what a machine reaches. -/
theorem app_iL (A : World) (hw : Region.wanted o (yielded ops a.tmps) = true) {s x : Operand} (ho : o.op = .call { callee := .builtin .append, args := #[s, x], argTypes := #[22, 22] })
    {v vx : Value} {n k : Nat} {l m : List Int} (hs : a.eval s = v) (hown : w.ownsRow A.heap.size 3 1 v n (ints l)) (hx : a.eval x = vx) (hsl : Is w vx m) (hm : m.length = k) (h63 : (n + k) * 8 ≤ 140737488355328) (hA : Below A.heap.size A w)
    (h : ∀ v' w', w'.ownsRow A.heap.size 3 1 v' (n + k) (ints (l ++ m)) → (v' = .slice none 0 0 ↔ v = .slice none 0 0 ∧ k = 0) → Below A.heap.size A w' → w.grownBy w' v.ownBlock → wpList Try.prog ops Q rest (a.put o.dst v') w') : wpList Try.prog ops Q (o :: rest) a w := by
  unfold wpList
  rw [if_pos hw]
  left
  exact appiW A o.dst rfl ho hs hown hx hsl hm h63 hA h
end
set_option maxHeartbeats 1000000 in
theorem gints_any (v u : Value) (l m : List Int) (w : World) (hv : Is w v l) (hu : Is w u m) (hl : l.length ≤ 100000) (hm : m.length ≤ 100000) :
    Calls Try.prog 14 #[v, u] w fun e w' => e = .returned (.bool (decide (l = m))) ∧ Below w.heap.size w w' := by
  obtain ⟨q, cap, g, off, rfl, h1, h2, h3, h4, h5⟩ := hv
  obtain ⟨q', cap', g', off', rfl, k1, k2, k3, k4, k5⟩ := hu
  exact ints_any _ _ _ _ _ l _ _ _ _ _ m w rfl rfl hl hm h3 k3 h5 k5 h4 k4
end Go.Proofs.Ytnooedipanhkjaa
