/-
  append of numbers onto an own slice of numbers, and where it lies then.
-/
import Derived.Test.YtalbiggmmmkclaaFrD
namespace Go.Proofs.Ytalbiggmmmkclaa
open Go.RowKit
set_option linter.unusedVariables false

/-- What append asks of its source. -/
theorem Is.src {W : World} {v : Value} {l : List Int} (h : Is W v l) : ∃ q cap, v = .slice q l.length cap ∧ (q = none → l.length = 0) ∧ (∀ ad, q = some ad → ∀ j u, (ints l)[j]? = some u → W.cell? (ad.add j) = some u) := by
  obtain ⟨q, cap, g, off, rfl, h1, h2, h3, h4, h5⟩ := h
  refine ⟨q, cap, rfl, fun hq => ?_, fun ad had j u hu => ?_⟩
  · by_cases h0 : 0 < l.length
    · have e := h3 h0
      rw [hq] at e; cases e
    · omega
  · rw [ints_at] at hu
    cases hx : l[j]? with
    | none => rw [hx] at hu; simp at hu
    | some x =>
      rw [hx] at hu
      have e := h3 (by have := (List.getElem?_eq_some_iff.1 hx).1; omega)
      rw [had] at e
      cases e
      rw [Addr.add_mid, h5 j x hx]
      simpa using hu
/-- A slice of numbers of the call's own. -/
def Io (W : World) (base : Nat) (v : Value) (l : List Int) : Prop := W.ownsRow base 3 1 v l.length (ints l)
theorem io_of {W : World} {base n : Nat} {v : Value} {l : List Int} (h : W.ownsRow base 3 1 v n (ints l)) : Io W base v l := by
  have := h.1
  rw [ints_len, Nat.mul_one] at this
  unfold Io
  rw [this]
  exact h
theorem Io.is {W : World} {base : Nat} {v : Value} {l : List Int} (h : Io W base v l) : Is W v l := own_is h
theorem Io.keep {W W' : World} {base : Nat} {v : Value} {l : List Int} (h : Io W base v l) (hb : Below W.heap.size W W') : Io W' base v l := own_keep h hb
theorem Io.less {W : World} {base base' : Nat} {v : Value} {l : List Int} (h : Io W base v l) (hb : base' ≤ base) : Io W base' v l := own_less h hb
theorem Io.lt {W : World} {base : Nat} {v : Value} {l : List Int} (h : Io W base v l) : ∀ k, v.ownBlock = some k → base ≤ k ∧ k < W.heap.size := World.ownsRow.lt h
theorem Io.kept {W W' : World} {base : Nat} {v x : Value} {l : List Int} (h : Io W base v l) (hg : W.grownBy W' x.ownBlock) (hs : Sep v x) : Io W' base v l := World.ownsRow.kept h hg hs.row
/-- Blocks stay apart where one of them grows. -/
theorem sep_at {a b b' : Value} {m : Nat} (h : Sep a b) (hl : ∀ k, a.ownBlock = some k → k < m) (hat : b'.ownBlock = b.ownBlock ∨ b'.ownBlock = some m) : Sep a b' := by
  intro k hk
  rcases hat with e | e
  · rw [e]; exact h k hk
  · rw [e]; intro he; have := hl k hk; simp at he; omega
section
variable {ops : Array Oper} {rest : List Oper} {o : Oper} {a : Act} {w : World} {Q : Exit → Act → World → Prop}
/-- An operation that yields, at one operation. -/
theorem valWf {K : Act → World → Prop} (d : Option Tmp) (hd : o.dst = d) (v : Value) (hr : (execOp a.eval o).run Try.prog w = .ok (.value v) w) (h : K (a.put d v) w) : o.wp Try.prog a w K Q := by
  subst hd
  unfold Oper.wp
  rw [hr, Oper.upon_value]
  exact h
theorem cv_run {ρ : Operand → Value} {x : Operand} (ho : o.op = .convert 39 9 x) {v : Value} {l : List Nat} (hx : ρ x = v) (h : Sl w v l) : (execOp ρ o).run Try.prog w = .ok (.value (.string (strB l))) w := by
  unfold execOp
  simp only [ho, hx, Sem.run_bind, sl_str h, Result.andThen_ok, Sem.run_pure]
end
end Go.Proofs.Ytalbiggmmmkclaa
