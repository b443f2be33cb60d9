/-
  note.Decode of whatever bytes, and of a note's; the fixed fact of the laws.
  == and != of operations and of entries.
-/
import Derived.Test.YtfnageillhpjpaaPk41
import Derived.Test.YtfnageillhpjpaaPk25
namespace Go.Proofs.Ytfnageillhpjpaa
set_option maxRecDepth 100000
open Go.RowKit Go.Shelf
set_option linter.unusedVariables false

theorem bysN_byt (N : Nt) : Byt (bysN N) := frm_byt (numsB_byt _)
theorem bysN_len {N : Nt} (g : GoodN N) : (bysN N).length ≤ 16384 ∧ 8 < (bysN N).length := by
  have := good_fits g
  unfold bysN
  rw [frm_len]
  refine ⟨by omega, ?_⟩
  have h1 := (numB_len N.k).2
  unfold numsN
  rw [numsB_cons, List.length_append]
  omega
def exN : Nt := ⟨4, 3, 1, [7, 2, 1, 0], [], []⟩
theorem exN_good : GoodN exN := ⟨by simp [exN], by simp [exN], by unfold FitK; simp [exN], fun o ho => by simp [exN] at ho⟩
theorem exN_wf : WN exN := ⟨⟨by simp [exN], by simp [exN]⟩, ⟨by simp [exN], by simp [exN]⟩, ⟨by simp [exN], by simp [exN]⟩, fun x hx => by simp [exN] at hx; omega, fun o ho => by simp [exN] at ho, fun o ho => by simp [exN] at ho⟩

end Go.Proofs.Ytfnageillhpjpaa
namespace Go.Proofs.Ytfnageillhpjpaa
set_option maxRecDepth 100000
open Go.RowKit Go.Shelf
set_option linter.unusedVariables false

/-- The same in the first k numbers. -/
def eqA (k : Nat) (c d : Nat → Int) : Bool := (List.range k).all fun i => decide (c i = d i)
theorem eqA_iff (k : Nat) (c d : Nat → Int) : eqA k c d = true ↔ ∀ i, i < k → c i = d i := by simp [eqA]
attribute [local go_sem] eq_fold
theorem eq_plc (n : Nat) (a b c d : Int) (w : World) : (Op.equalIn (n + 1 + 1) 38 (.agg #[.int .i64 a, .int .i64 b]) (.agg #[.int .i64 c, .int .i64 d])).run Try.prog w = .ok (decide (a = c) && decide (b = d)) w := by
  have u3 := Try.underlying3
  rw [run_equalIn_agg w (n + 1) 38 _ _ (by kernel_rfl) (by kernel_rfl)]
  simp only [Program.fieldsOf, Try.underlying38]
  have i3 := Try.isAgg3
  go_simp
theorem eq_op5 (n : Nat) (a b : Nat → Int) (w : World) : (Op.equalIn (n + 1 + 1) 27 (.agg (OA a)) (.agg (OA b))).run Try.prog w = .ok (eqA 5 a b) w := by
  have u3 := Try.underlying3
  have e : ∀ x, OA x = #[.int .i64 (x 0), .int .i64 (x 1), .int .i64 (x 2), .int .i64 (x 3), .int .i64 (x 4)] := fun x => rfl
  rw [e, e, run_equalIn_agg w (n + 1) 27 _ _ (by kernel_rfl) (by kernel_rfl)]
  simp only [Program.fieldsOf, Try.underlying27]
  have i3 := Try.isAgg3
  go_simp
  have hs : eqA 5 a b = (decide (a 0 = b 0) && (decide (a 1 = b 1) && (decide (a 2 = b 2) && (decide (a 3 = b 3) && decide (a 4 = b 4))))) := by simp [eqA, List.range_succ]
  rw [hs]
theorem eq_cellN (n : Nat) (c d : Nat → Int) (w : World) : (Op.equalIn (n + 1 + 1 + 1) 54 (.agg (CA c)) (.agg (CA d))).run Try.prog w = .ok (eqC c d) w := by
  have u3 := Try.underlying3
  have i3 := Try.isAgg3
  have p0 : ∀ (f : Nat → Int) (i : Nat) (w : World), i < 74 → i ≠ 2 → (part 3 (CA f) i).run Try.prog w = .ok (.int .i64 (f i)) w := fun f i w hi h2 => by
    simp [part, i3, CA_at64 f i hi h2, go_sem]
  have p2 : ∀ (f : Nat → Int) (w : World), (part 49 (CA f) 1).run Try.prog w = .ok (.agg #[.int .i64 (f 1), .int .u64 (f 2)]) w := fun f w => by
    simp only [part, Sem.run_bind, Try.isAgg49, Try.sizeOf49, Result.andThen_ok, if_true, Sem.run_pure]
    rw [show 1 + 2 = 3 from rfl, CA_part2]
  have p4 : ∀ (f : Nat → Int) (w : World), (part 51 (CA f) 5).run Try.prog w = .ok (.agg #[.int .i64 (f 5), .int .i64 (f 6), .int .i64 (f 7), .int .i64 (f 8)]) w := fun f w => by
    simp only [part, Sem.run_bind, Try.isAgg51, Try.sizeOf51, Result.andThen_ok, if_true, Sem.run_pure]
    rw [show 5 + 4 = 9 from rfl, CA_part4]
  have p9 : ∀ (f : Nat → Int) (w : World), (part 52 (CA f) 9).run Try.prog w = .ok (.agg (HA fun i => f (9 + i))) w := fun f w => by
    simp only [part, Sem.run_bind, Try.isAgg52, Try.sizeOf52, Result.andThen_ok, if_true, Sem.run_pure]
    rw [show 9 + 65 = 74 from rfl, CA_hist]
  rw [run_equalIn_agg w (n + 1 + 1) 54 _ _ (by kernel_rfl) (by kernel_rfl)]
  simp only [Program.fieldsOf, Try.underlying54]
  simp only [Op.eqFields, Sem.run_bind, Sem.run_ite, p0 _ 0 _ (by omega) (by omega), p0 _ 3 _ (by omega) (by omega), p0 _ 4 _ (by omega) (by omega), p2, p4, p9, Result.andThen_ok,
    run_equalIn_int _ _ 3 .i64 .i64 _ _ u3, eq_two, eq_four, eq_hist]
  rw [eqC_split]
  generalize (c 0 == d 0) = x0
  generalize (decide (c 1 = d 1) && decide (c 2 = d 2)) = x1
  generalize (c 3 == d 3) = x3
  generalize (c 4 == d 4) = x4
  generalize (decide (c 5 = d 5) && decide (c 6 = d 6) && decide (c 7 = d 7) && decide (c 8 = d 8)) = x5
  generalize ((List.range 65).all fun i => c (9 + i) == d (9 + i)) = x9
  cases x0 <;> cases x1 <;> cases x3 <;> cases x4 <;> cases x5 <;> cases x9 <;> simp
theorem EA_cell (e : Nat → Int) : (EA e).extract 2 76 = CA (cE e) := by
  apply Array.ext'
  apply List.ext_getElem?
  intro i
  by_cases hi : i < 74
  · have e1 : (CA (cE e)).toList[i]? = some (.int (ck i) (cE e i)) := by simp [CA, hi]
    have e2 : ek (2 + i) = ck i := by
      unfold ek ck
      by_cases h2 : i = 2
      · subst h2; rfl
      · rw [if_neg (by omega), if_neg h2]
    rw [e1, Array.toList_extract, List.getElem?_take_of_lt (by omega), List.getElem?_drop, AG_at 76 ek e (2 + i) (by omega), e2]
    rfl
  · rw [List.getElem?_eq_none (by simp [AG_size]; omega), List.getElem?_eq_none (by simp [CA]; omega)]
theorem eqA_split (a b : Nat → Int) : eqA 76 a b = ((decide (a 0 = b 0) && decide (a 1 = b 1)) && eqC (cE a) (cE b)) := by
  rw [Bool.eq_iff_iff, eqA_iff]
  simp only [Bool.and_eq_true, decide_eq_true_eq, eqC_iff]
  constructor
  · intro h
    exact ⟨⟨h 0 (by omega), h 1 (by omega)⟩, fun i hi => h (2 + i) (by omega)⟩
  · rintro ⟨⟨h0, h1⟩, h2⟩ i hi
    match i, hi with
    | 0, _ => exact h0
    | 1, _ => exact h1
    | n + 2, h => have := h2 n (by omega); unfold cE at this; rwa [Nat.add_comm 2 n] at this
theorem eq_ent (n : Nat) (a b : Nat → Int) (w : World) : (Op.equalIn (n + 1 + 1 + 1 + 1) 90 (.agg (EA a)) (.agg (EA b))).run Try.prog w = .ok (eqA 76 a b) w := by
  have p0 : ∀ (f : Nat → Int) (w : World), (part 38 (EA f) 0).run Try.prog w = .ok (.agg #[.int .i64 (f 0), .int .i64 (f 1)]) w := fun f w => by
    simp only [part, Sem.run_bind, Try.isAgg38, Try.sizeOf38, Result.andThen_ok, if_true, Sem.run_pure]
    congr 2
  have p2 : ∀ (f : Nat → Int) (w : World), (part 54 (EA f) 2).run Try.prog w = .ok (.agg (CA (cE f))) w := fun f w => by
    simp only [part, Sem.run_bind, Try.isAgg54, Try.sizeOf54, Result.andThen_ok, if_true, Sem.run_pure]
    rw [show 2 + 74 = 76 from rfl, EA_cell]
  rw [run_equalIn_agg w (n + 1 + 1 + 1) 90 _ _ (by kernel_rfl) (by kernel_rfl)]
  simp only [Program.fieldsOf, Try.underlying90]
  simp only [Op.eqFields, Sem.run_bind, Sem.run_ite, p0, p2, Result.andThen_ok, eq_plc, eq_cellN]
  rw [eqA_split]
  generalize (decide (a 0 = b 0) && decide (a 1 = b 1)) = x0
  generalize eqC (cE a) (cE b) = x1
  cases x0 <;> cases x1 <;> simp
theorem neq_op5 (a b : Nat → Int) (w : World) : (binOp .neq 27 (.agg (OA a)) (.agg (OA b))).run Try.prog w = .ok (.bool (!eqA 5 a b)) w := by
  rw [run_neq_struct, show (10000 : Nat) = 9998 + 1 + 1 from rfl, eq_op5]
  simp
theorem neq_ent (a b : Nat → Int) (w : World) : (binOp .neq 90 (.agg (EA a)) (.agg (EA b))).run Try.prog w = .ok (.bool (!eqA 76 a b)) w := by
  rw [run_neq_struct, show (10000 : Nat) = 9996 + 1 + 1 + 1 + 1 from rfl, eq_ent]
  simp
end Go.Proofs.Ytfnageillhpjpaa
