/-
  cell.Take at every row of numbers; cells compared by '!='.
-/
import Derived.Test.YtfnageillhpjpaaPk36
import Derived.Test.YtfnageillhpjpaaPk37
namespace Go.Proofs.Ytfnageillhpjpaa
set_option maxRecDepth 100000
open Go.RowKit
set_option linter.unusedVariables false

theorem cneq_run (c d : Nat → Int) (w : World) : (binOp .neq 54 (.agg (CA c)) (.agg (CA d))).run Try.prog w = .ok (.bool (!eqC c d)) w := by
  have h := eq_cell c d w
  rw [run_eql_struct] at h
  rw [run_neq_struct]
  generalize (Op.equalIn 10000 54 (.agg (CA c)) (.agg (CA d))).run Try.prog w = R at *
  cases R <;> simp_all [Result.andThen]
theorem cneq_oper {o : Oper} {ρ : Operand → Value} {x y : Operand} {t' : TypeId} {c d : Nat → Int} (ho : o.op = .binOp .neq 54 x y t') (hx : ρ x = .agg (CA c)) (hy : ρ y = .agg (CA d)) (he : eqC c d = true) (w : World) :
    (execOp ρ o).run Try.prog w = .ok (.value (.bool false)) w := by
  unfold execOp
  simp only [ho, hx, hy, Sem.run_bind, eq_guard, cneq_run, he, Result.andThen_ok, Sem.run_pure, Bool.not_true]

/-- Numbers that begin with no cell. -/
def NoT (l : List Int) : Prop := l.length < 10 ∨ (10 ≤ l.length ∧ (l.getD 9 0 < 0 ∨ (((l.length - 10) / 2 : Nat) : Int) < l.getD 9 0)) ∨ (∃ ps more, Parts l ps more ∧ foldH ps = none)
theorem take_cases (l : List Int) : NoT l ∨ ∃ ps more nx h, Parts l ps more ∧ foldH ps = some (nx, h) := by
  by_cases h10 : l.length < 10
  · exact .inl (.inl h10)
  by_cases hb : l.getD 9 0 < 0 ∨ (((l.length - 10) / 2 : Nat) : Int) < l.getD 9 0
  · exact .inl (.inr (.inl ⟨by omega, hb⟩))
  obtain ⟨m, hm⟩ : ∃ m : Nat, l.getD 9 0 = (m : Int) := ⟨(l.getD 9 0).toNat, by omega⟩
  obtain ⟨ps, hl, hf⟩ := flatP_of m ((l.drop 10).take (2 * m)) (by rw [List.length_take, List.length_drop]; omega)
  have hp : Parts l ps ((l.drop 10).drop (2 * m)) := ⟨by omega, by rw [hm, hl], by rw [hf, List.take_append_drop]⟩
  cases e : foldH ps with
  | none => exact .inl (.inr (.inr ⟨ps, _, hp, e⟩))
  | some s => exact .inr ⟨ps, _, s.1, s.2, hp, e⟩
theorem foldH_fit : ∀ (ps : List PV) nx h, foldH ps = some (nx, h) → (∀ p ∈ ps, Fit p.2) → ∀ i, Fit (h i) := by
  refine snoc_ind ?_ ?_
  · intro nx h e _ i
    simp [foldH] at e
    rw [← e.2]; exact ⟨by simp [zc], by simp [zc]⟩
  · intro ps p ih nx' h' e hp i
    rw [foldH_snoc] at e
    cases hs : foldH ps with
    | none => rw [hs] at e; cases e
    | some s =>
      obtain ⟨nx, h⟩ := s
      rw [hs] at e
      obtain ⟨h1, h2, h3, rfl, rfl⟩ := stepH_some e
      have := ih nx h hs (fun q hq => hp q (by simp [hq])) i
      unfold cup; split
      · exact hp p (by simp)
      · exact this
theorem flatP_mem : ∀ (ps : List PV) (p : PV), p ∈ ps → p.2 ∈ flatP ps
  | q :: ps, p, h => by
    rcases List.mem_cons.1 h with rfl | h
    · simp [flatP]
    · have := flatP_mem ps p h
      simp only [flatP, List.flatMap_cons] at this ⊢
      exact List.mem_append_right _ this
theorem cellOf_wf {l : List Int} {ps : List PV} {more : List Int} {nx : Nat} {h : Nat → Int} (hp : Parts l ps more) (e : foldH ps = some (nx, h)) (hf : ∀ x ∈ l, Fit x) : Wf (cellOf l h) := by
  have hget : ∀ i, Fit (l.getD i 0) := fun i => by
    by_cases c : i < l.length
    · rw [List.getD_eq_getElem?_getD, List.getElem?_eq_getElem c]; exact hf _ (List.getElem_mem c)
    · rw [List.getD_eq_getElem?_getD, List.getElem?_eq_none (by omega)]; exact ⟨by simp, by simp⟩
  have hh := foldH_fit ps nx h e (fun p hp' => hf _ (List.mem_of_mem_drop (i := 10) (by rw [hp.rest]; exact List.mem_append_left _ (flatP_mem ps p hp'))))
  refine ⟨?_, fun i hi h2 => ?_⟩
  · unfold cellOf; rw [if_pos (by omega), if_pos rfl]; unfold uw; omega
  · unfold cellOf
    split
    · exact hget i
    · exact hh _
theorem numsF_len (c : Nat → Int) : 10 ≤ (numsF c).length ∧ (numsF c).length ≤ 140 := by
  have := pp_len (hf c) 65
  simp [numsF, hdF, flatP_len]; omega
end Go.Proofs.Ytfnageillhpjpaa
