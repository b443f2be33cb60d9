/-
  estuarynum.Apart: true where each slice is its own.
-/
import Derived.Test.YtoofgidmegplbaaFrX
namespace Go.Proofs.Ytoofgidmegplbaa
open Go.RowKit
set_option linter.unusedVariables false

/-- Lists of their own, and the row that holds them. -/
structure Bg (W : World) (base gl off n : Nat) (V : Nat → Value) (c : Nat → List Nat) : Prop where
  own : ∀ j, j < n → Ow W base (V j) (c j)
  row : ∀ j, j < n → W.cell? ⟨gl, off + j, none⟩ = some (V j)
theorem Bg.same {W : World} {base gl off n : Nat} {V : Nat → Value} {c d : Nat → List Nat} (h : Bg W base gl off n V c) (he : ∀ j, j < n → c j = d j) : Bg W base gl off n V d :=
  ⟨fun j hj => by rw [← he j hj]; exact h.own j hj, h.row⟩
/-- The first k marked; of the k-th the first t places. -/
def cI (C : Nat → List Nat) (k t j : Nat) : List Nat := if j < k then mrk j (C j).length else if j = k then mix k t (C k) else C j
theorem cI_next (C : Nat → List Nat) (k j : Nat) : cI C k (C k).length j = cI C (k + 1) 0 j := by
  unfold cI
  by_cases c : j < k
  · rw [if_pos c, if_pos (by omega)]
  · by_cases d : j = k
    · subst d
      rw [if_neg c, if_pos rfl, if_pos (by omega), mix_full]
    · rw [if_neg c, if_neg d, if_neg (by omega)]
      by_cases e : j = k + 1
      · subst e; rw [if_pos rfl, mix_zero]
      · rw [if_neg e]
theorem Bg.store {W : World} {base gl off n k t g cap : Nat} {V : Nat → Value} {C : Nat → List Nat} (h : Bg W base gl off n V (cI C k t)) (hk : k < n) (ht : t < (C k).length) (hv : V k = .slice (some ⟨g, 0, none⟩) (C k).length cap) (hs : ∀ i, i < n → i ≠ k → Sep (V i) (V k)) (hg : gl ≠ g) :
    Bg (W.setCell ⟨g, t, none⟩ (.int .u8 ((mk1 k t : Nat) : Int))) base gl off n V (cI C k (t + 1)) := by
  have hO := h.own k hk
  have e : cI C k t k = mix k t (C k) := by unfold cI; rw [if_neg (by omega), if_pos rfl]
  rw [e, hv] at hO
  have hO2 : W.ownsRow base 5 1 (.slice (some ⟨g, 0, none⟩) (C k).length cap) (C k).length (bys (mix k t (C k))) := by
    unfold Ow at hO
    rwa [mix_len k t (C k) (by omega)] at hO
  obtain ⟨h1, h2⟩ := hO2.stored t (.int .u8 ((mk1 k t : Nat) : Int))
  rw [bys_set, mix_set k t (C k) ht] at h1
  refine ⟨fun j hj => ?_, fun j hj => h2.cell (h.row j hj) (fun e => hg (by simpa using e))⟩
  by_cases c : j = k
  · subst c
    have e2 : cI C j (t + 1) j = mix j (t + 1) (C j) := by unfold cI; rw [if_neg (by omega), if_pos rfl]
    rw [e2, hv]
    exact ow_of h1
  · have e2 : cI C k (t + 1) j = cI C k t j := by unfold cI; rw [if_neg c, if_neg c]
    rw [e2]
    have hsj := hs j hj c
    rw [hv] at hsj
    exact (h.own j hj).kept (x := .slice (some ⟨g, 0, none⟩) (C k).length cap) h2 hsj
theorem bsl0 (w : World) : (Instr.buildSlice 37 0 #[]).run Try.prog w = .ok (.slice (some ⟨w.heap.size, 0, none⟩) 0 0) (w.alloc (.cells #[] 30)) := by kernel_rfl
section
variable {ops : Array Oper} {rest : List Oper} {o : Oper} {a : Act} {w : World} {Q : Exit → Act → World → Prop}
/-- '[][]byte{}'. -/
theorem bs_l0 (A : World) (hA : A.heap.size ≤ w.heap.size) (hw : Region.wanted o (yielded ops a.tmps) = true) (ho : o.op = .buildSlice 37 0 #[])
    (h : ∀ W', W'.ownsRow A.heap.size 30 1 (.slice (some ⟨w.heap.size, 0, none⟩) 0 0) 0 [] → Below w.heap.size w W' → wpList Try.prog ops Q rest (a.put o.dst (.slice (some ⟨w.heap.size, 0, none⟩) 0 0)) W') : wpList Try.prog ops Q (o :: rest) a w := by
  unfold wpList
  rw [if_pos hw]
  left
  unfold Oper.wp execOp
  have hl : (#[] : Array (Nat × Operand)).map (fun (i, x) => (i, a.eval x)) = #[] := by simp
  simp only [ho, Sem.run_bind, hl, bsl0, Result.andThen_ok]
  exact h _ (own_empty w A 30 1 hA) ((Below.refl _ _).alloc (Nat.le_refl _) _)
end
/-- What was read is read, where the list that grew out of it grows on. -/
theorem rd_step {W W' : World} {base k m t : Nat} {v x x' : Value} (hs : Shp v m) (hv : Sl W v (mrk k m)) (hO : Ow W' base x' (mrk k (m + t))) (hg : W.grownBy W' x.ownBlock) (hat : x'.ownBlock = x.ownBlock ∨ x'.ownBlock = some W.heap.size ∧ W.grownBy W' none) : Sl W' v (mrk k m) := by
  rcases hs with ⟨rfl, rfl⟩ | ⟨g, cap, rfl, hc, hm⟩
  · exact sl_nil W'
  · by_cases c : x.ownBlock = some g
    · rcases hat with e | ⟨_, e⟩
      · exact sl_pre hO (e.trans c) (by omega) hc hm
      · exact sl_kept (x := .slice none 0 0) hv (fun b hb he => by cases he) e
    · refine sl_kept (x := x) hv (fun b hb he => ?_) hg
      simp [Value.ownBlock] at hb
      exact c (by rw [he, hb])

/-- How long a slice is. -/
def slLen2 : Value → Nat
  | .slice _ n _ => n
  | _ => 0
end Go.Proofs.Ytoofgidmegplbaa
