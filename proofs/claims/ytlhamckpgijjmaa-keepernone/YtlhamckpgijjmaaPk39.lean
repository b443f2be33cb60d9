/-
  What comes in to the laws of diaries: bytes and lists of bytes with their sizes, rows of truth values, the structs of the laws.
  The document's numbers: estuaryref04.Number, Put, Take, Nums.
  Slices of strings.
-/
import Derived.Test.YtlhamckpgijjmaaPk37
import Derived.Test.YtlhamckpgijjmaaPk38
import Derived.SizedLaws
import Derived.Test.YtlhamckpgijjmaaPk11
import Derived.Lib.Strings
import Derived.Test.YtlhamckpgijjmaaPk05
import Derived.Test.YtlhamckpgijjmaaPk02
namespace Go.Proofs.Ytlhamckpgijjmaa
open Go.ChangeShapes Go.WideShapes Go.ChangeAt Go.RowKit
set_option linter.unusedVariables false
set_option maxRecDepth 100000

section
variable {H : Type} {enc : TypeId × Value → H} {w : World} {base : Nat} {spare : Nat → Bool} {held : Bool} {P : Program}
/-- A row of truth values. -/
structure Bs (W : World) (q : Option Addr) (n cap g off : Nat) (l : List Bool) : Prop where
  len : l.length = n
  fits : n ≤ cap
  max : cap ≤ 9223372036854775807
  ptr : 0 < n → q = some ⟨g, off, none⟩
  lt : 0 < n → g < W.heap.size
  row : ∀ j x, l[j]? = some x → W.cell? ⟨g, off + j, none⟩ = some (.bool x)
end
end Go.Proofs.Ytlhamckpgijjmaa
namespace Go.Proofs.Ytlhamckpgijjmaa
open Go.RowKit
set_option linter.unusedVariables false

theorem leB_cons (j u : Nat) (hu : u < 256 ^ j) (h0 : u ≠ 0) : ∃ k, j = k + 1 ∧ leB j u = u % 256 :: leB k (u / 256) ∧ u / 256 < 256 ^ k := by
  cases j with
  | zero => exact absurd (by simpa using hu) h0
  | succ k =>
    refine ⟨k, rfl, ?_, by rw [Nat.pow_succ] at hu; omega⟩
    rw [leB, if_neg h0]
theorem leB_zero (j : Nat) : leB j 0 = [] := by cases j <;> simp [leB]
/-- How a number is written: what is done, and what is left. -/
structure Wr (u : Nat) (l : List Nat) (rem : Nat) : Prop where
  len : l.length ≤ 8
  lt : rem < 256 ^ (8 - l.length)
  all : l ++ leB (8 - l.length) rem = leB 8 u
theorem Wr.start {u : Nat} (hu : u < 18446744073709551616) : Wr u [] u := ⟨by simp, by simpa using hu, by simp⟩
theorem Wr.step {u : Nat} {l : List Nat} {rem : Nat} (h : Wr u l rem) (h0 : rem ≠ 0) : Wr u (l ++ [rem % 256]) (rem / 256) := by
  obtain ⟨k, e, e2, e3⟩ := leB_cons (8 - l.length) rem h.lt h0
  have hl : (l ++ [rem % 256]).length = l.length + 1 := by simp
  have hk : 8 - (l ++ [rem % 256]).length = k := by rw [hl]; omega
  refine ⟨by rw [hl]; omega, by rw [hk]; exact e3, ?_⟩
  rw [hk, ← h.all, e2, List.append_assoc]
  rfl
theorem Wr.end {u : Nat} {l : List Nat} (h : Wr u l 0) : l = leB 8 u := by
  have := h.all
  rwa [leB_zero, List.append_nil] at this
theorem val_drop (l : List Nat) (i x : Nat) (h : l[i]? = some x) : val (l.drop i) = x + 256 * val (l.drop (i + 1)) := by
  obtain ⟨hi, e⟩ := List.getElem?_eq_some_iff.1 h
  rw [List.drop_eq_getElem_cons hi, val, e]
theorem val_drop_lt (l : List Nat) (hb : Byt l) (h8 : l.length ≤ 8) (i : Nat) : val (l.drop i) < 18446744073709551616 := by
  have h := val_lt (l.drop i) (hb.drop i)
  have hl : (l.drop i).length ≤ 8 := by rw [List.length_drop]; omega
  have := Nat.pow_le_pow_right (n := 256) (by decide) hl
  omega
theorem unz_even (u : Nat) (h : u % 2 = 0) : unz u = ((u / 2 : Nat) : Int) := by unfold unz; rw [if_neg (by omega)]
theorem unz_odd (u : Nat) (h : u % 2 = 1) : unz u = -((u / 2 : Nat) : Int) - 1 := by unfold unz; rw [if_pos h]
end Go.Proofs.Ytlhamckpgijjmaa
namespace Go.Proofs.Ytlhamckpgijjmaa
open Go.RowKit
set_option linter.unusedVariables false
set_option maxRecDepth 100000

/-- Texts as values. -/
def txv (ls : List (List Nat)) : List Value := ls.map fun l => Value.string (strB l)
theorem txv_len (ls : List (List Nat)) : (txv ls).length = ls.length := by simp [txv]
theorem txv_app (ls ms : List (List Nat)) : txv ls ++ txv ms = txv (ls ++ ms) := by simp [txv]
theorem txv_at (ls : List (List Nat)) (j : Nat) : (txv ls)[j]? = ls[j]?.map fun l => Value.string (strB l) := by simp [txv]
theorem txv_one (ls : List (List Nat)) : ∀ u ∈ txv ls, u.oneCell' = true := by
  intro u hu
  obtain ⟨x, _, rfl⟩ := List.mem_map.1 hu
  rfl
theorem infoText : (Try.prog.info? 9).map (fun i => (i.zero, i.size, i.bytes)) = some (some (.string ⟨#[]⟩), 1, 16) := by kernel_rfl
/-- An own slice of texts. -/
def Txo (W : World) (base : Nat) (v : Value) (ls : List (List Nat)) : Prop := W.ownsRow base 9 1 v ls.length (txv ls)
/-- A slice of texts. -/
def Txs (W : World) (v : Value) (ls : List (List Nat)) : Prop := ∃ q cap g off, v = .slice q ls.length cap ∧ ls.length ≤ cap ∧ cap ≤ 9223372036854775807 ∧ (0 < ls.length → q = some ⟨g, off, none⟩) ∧ (0 < ls.length → g < W.heap.size) ∧ ∀ j l, ls[j]? = some l → W.cell? ⟨g, off + j, none⟩ = some (.string (strB l))
theorem txo_of {W : World} {base n : Nat} {v : Value} {ls : List (List Nat)} (h : W.ownsRow base 9 1 v n (txv ls)) : Txo W base v ls := by
  have : n = ls.length := by have := h.1; rw [txv_len, Nat.mul_one] at this; exact this.symm
  subst this
  exact h
theorem Txo.keep {W W' : World} {base : Nat} {v : Value} {ls : List (List Nat)} (h : Txo W base v ls) (hb : Below W.heap.size W W') : Txo W' base v ls := own_keep h hb
theorem Txo.lt {W : World} {base : Nat} {v : Value} {ls : List (List Nat)} (h : Txo W base v ls) : ∀ k, v.ownBlock = some k → base ≤ k ∧ k < W.heap.size := World.ownsRow.lt h
theorem Txo.at {W W' : World} {base : Nat} {v : Value} {ls : List (List Nat)} (h : Txo W base v ls) (he : ∀ k, v.ownBlock = some k → W'.heap[k]? = W.heap[k]?) : Txo W' base v ls := own_at h he
theorem Txo.less {W : World} {base base' : Nat} {v : Value} {ls : List (List Nat)} (h : Txo W base v ls) (hb : base' ≤ base) : Txo W base' v ls := own_less h hb
theorem Txo.txs {W : World} {base : Nat} {v : Value} {ls : List (List Nat)} (h : Txo W base v ls) : Txs W v ls := by
  obtain ⟨h1, q, g, cap, e, hp, hg, _, _, hc, hm, hr, _⟩ := own_open h (by omega)
  exact ⟨q, cap, g, 0, e, hc, hm, hp, hg, fun j l hl => by rw [Nat.zero_add]; exact hr j _ (by rw [txv_at, hl]; rfl)⟩
theorem Txs.keep {W W' : World} {v : Value} {ls : List (List Nat)} (h : Txs W v ls) (hb : Below W.heap.size W W') : Txs W' v ls := by
  obtain ⟨q, cap, g, off, e, h1, h2, h3, h4, h5⟩ := h
  refine ⟨q, cap, g, off, e, h1, h2, h3, fun h0 => Nat.lt_of_lt_of_le (h4 h0) hb.size, fun j l hl => ?_⟩
  have h0 : 0 < ls.length := by have := (List.getElem?_eq_some_iff.1 hl).1; omega
  exact (hb.cell (p := ⟨g, off + j, none⟩) (h4 h0)).trans (h5 j l hl)
theorem Txs.slice {W : World} {v : Value} {ls : List (List Nat)} (h : Txs W v ls) : ∃ q c, v = .slice q ls.length c := by
  obtain ⟨q, cap, g, off, e, _⟩ := h
  exact ⟨q, cap, e⟩
theorem txs_src {W : World} {v : Value} {ls : List (List Nat)} (h : Txs W v ls) : ∃ q cap, v = .slice q ls.length cap ∧ (q = none → ls.length = 0) ∧ (∀ ad, q = some ad → ∀ j u, (txv ls)[j]? = some u → W.cell? (ad.add j) = some u) := by
  obtain ⟨q, cap, g, off, e, h1, h2, h3, h4, h5⟩ := h
  refine ⟨q, cap, e, fun hq => ?_, fun ad ha j u hu => ?_⟩
  · apply Classical.byContradiction
    intro h0
    have := h3 (by omega)
    rw [hq] at this
    cases this
  · rw [txv_at] at hu
    cases hl : ls[j]? with
    | none => rw [hl] at hu; simp at hu
    | some l =>
      rw [hl] at hu
      simp at hu
      subst hu
      have h0 : 0 < ls.length := by have := (List.getElem?_eq_some_iff.1 hl).1; omega
      have := h3 h0
      rw [ha] at this
      cases this
      rw [Addr.add_mid]
      exact h5 j l hl
theorem own_newS (w : World) (ls : List (List Nat)) (n : Nat) (hn : ls.length = n) (hm : n ≤ maxLen) (base : Nat) (hb : base ≤ w.heap.size) : (w.alloc (.cells (txv ls).toArray 9)).ownsRow base 9 1 (.slice (some ⟨w.heap.size, 0, none⟩) n n) n (txv ls) := by
  refine ⟨by rw [txv_len, hn, Nat.mul_one], .inr ⟨w.heap.size, n, (txv ls).toArray, rfl, hb, ?_, Nat.le_refl _, hm, ?_, ?_⟩⟩
  · show (w.heap.push _)[w.heap.size]? = _; simp
  · simp [txv_len, hn]
  · rw [Nat.mul_one, ← hn, ← txv_len ls]; simp
section
variable {ops : Array Oper} {rest : List Oper} {o : Oper} {a : Act} {w : World} {Q : Exit → Act → World → Prop}
end
theorem below_ownS {w w' : World} {base : Nat} {v : Value} {n : Nat} {xs : List Value} (h : w.ownsRow base 9 1 v n xs) (hA : base ≤ w.heap.size) (hg : w.grownBy w' v.ownBlock) : Below base w w' :=
  (Below.refl _ _).grown hg hA (fun r hr => (h.lt r hr).1)
section
variable {o : Oper} {a : Act} {w : World} {K : Act → World → Prop} {Q : Exit → Act → World → Prop}
end
end Go.Proofs.Ytlhamckpgijjmaa
