/-
  frame.Put, frame.Take, frame.Wrap.
-/
import Derived.Test.YtnooedipanhkjaaFrB
import Derived.Test.YtnooedipanhkjaaBitsW
namespace Go.Proofs.Ytnooedipanhkjaa
set_option maxRecDepth 100000
open Go.RowKit
set_option linter.unusedVariables false

/-- A slice of bytes of the call's own. -/
def Ow (W : World) (base : Nat) (v : Value) (l : List Nat) : Prop := W.ownsRow base 5 1 v l.length (bys l)
theorem ow_of {W : World} {base n : Nat} {v : Value} {l : List Nat} (h : W.ownsRow base 5 1 v n (bys l)) : Ow W base v l := by
  have := (own_sl h).1
  unfold Ow
  rw [this]
  exact h
theorem Ow.sl {W : World} {base : Nat} {v : Value} {l : List Nat} (h : Ow W base v l) : Sl W v l := (own_sl h).2
theorem Ow.keep {W W' : World} {base : Nat} {v : Value} {l : List Nat} (h : Ow W base v l) (hb : Below W.heap.size W W') : Ow W' base v l := own_keep h hb
theorem Ow.less {W : World} {base base' : Nat} {v : Value} {l : List Nat} (h : Ow W base v l) (hb : base' ≤ base) : Ow W base' v l := own_less h hb
/-- A slice of numbers, in memory that W has. -/
def Is (W : World) (v : Value) (l : List Int) : Prop := ∃ q cap g off, v = .slice q l.length cap ∧ l.length ≤ cap ∧ cap ≤ 9223372036854775807 ∧ (0 < l.length → q = some ⟨g, off, none⟩) ∧ (0 < l.length → g < W.heap.size) ∧ IRow W g off l
theorem Is.keep {W W' : World} {v : Value} {l : List Int} (h : Is W v l) (hb : Below W.heap.size W W') : Is W' v l := by
  obtain ⟨q, cap, g, off, rfl, h1, h2, h3, h4, h5⟩ := h
  exact ⟨q, cap, g, off, rfl, h1, h2, h3, fun h0 => Nat.lt_of_lt_of_le (h4 h0) hb.size, irow_keep h5 h4 hb⟩
theorem own_is {W : World} {base n : Nat} {v : Value} {l : List Int} (h : W.ownsRow base 3 1 v n (ints l)) : Is W v l := by
  obtain ⟨h1, q, g, cap, rfl, hp, hg, _, _, hc, hm, hr, _⟩ := own_open h (by omega)
  rw [ints_len, Nat.mul_one] at h1
  subst h1
  exact ⟨q, cap, g, 0, rfl, hc, hm, hp, hg, fun j x hx => by rw [Nat.zero_add]; exact hr j _ (by rw [ints_at, hx]; rfl)⟩
/-- All fit. -/
def In64 (l : List Int) : Prop := ∀ x ∈ l, -9223372036854775808 ≤ x ∧ x ≤ 9223372036854775807
theorem numsB_take (l : List Int) (k : Nat) (x : Int) (hx : l[k]? = some x) : numsB (l.take (k + 1)) = numsB (l.take k) ++ numB x := by
  rw [List.take_add_one, hx, Option.toList_some, numsB_snoc]

/-- An error of the program. -/
abbrev Err (n : Int) : Value := .iface 29 (.int .i64 n)
theorem nS_le {l : List Nat} (h : nOK l = true) : nS l ≤ l.length ∧ nS l ≤ 9 ∧ 1 ≤ nS l := by
  have := (nOK_iff l).1 h
  unfold nS
  omega
/-- The lengths of lists, one behind the other. -/
theorem flat_len (ls : List (List Nat)) (k : Nat) (l : List Nat) (h : ls[k]? = some l) : (ls.take (k + 1)).flatten.length = (ls.take k).flatten.length + l.length := by
  rw [flat_take ls k l h, List.length_append]
theorem flat_mono (ls : List (List Nat)) (k : Nat) : (ls.take k).flatten.length ≤ ls.flatten.length := by
  have : ls.flatten = (ls.take k).flatten ++ (ls.drop k).flatten := by rw [← List.flatten_append, List.take_append_drop]
  rw [this, List.length_append]
  omega
theorem flat_byt {ls : List (List Nat)} (h : ∀ l ∈ ls, Byt l) : Byt ls.flatten := by
  intro x hx
  obtain ⟨l, hl, h1⟩ := List.mem_flatten.1 hx
  exact h l hl x h1
theorem ow_empty {W : World} {base : Nat} {v : Value} (h : W.ownsRow base 5 1 v 0 []) : Ow W base v [] := h
end Go.Proofs.Ytnooedipanhkjaa
