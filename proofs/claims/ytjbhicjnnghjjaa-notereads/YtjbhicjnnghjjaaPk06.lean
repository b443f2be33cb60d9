/-
  Cells as arrays of numbers: 74 of them, the third unsigned. Whole cells out of blocks, into blocks, compared.
  The pairs of a Hist: cell.pairs, and its iterator's contract.
  Two cells joined: cell.both.
  Cells joined: cell.Unit, cell.Join.
-/
import Derived.Test.YtjbhicjnnghjjaaRows
import Derived.Test.YtjbhicjnnghjjaaPk03
import Derived.Test.YtjbhicjnnghjjaaPk01
import Derived.Laws.StructEq
import Derived.ChangeKeysEq
import Derived.RangeFuncNested
import Derived.RangeFuncBound
import Derived.RangeFuncCalls
import Derived.RangeFuncLeaves
import Derived.Shelf.Abstract
import Derived.Shelf.RegionOpen
import Derived.OwnWalkIn
import Derived.TacticsInMore
import Derived.LoopNIn
import Derived.LoopIn
import Derived.Test.YtjbhicjnnghjjaaPk02
import Derived.Test.YtjbhicjnnghjjaaPk05
import Derived.Lib.MinMax
import Derived.Deep.CutRange
import Derived.WalkMore
namespace Go.Proofs.Ytjbhicjnnghjjaa
open Go.RowKit
set_option linter.unusedVariables false

/-- The kinds of a cell's numbers. -/
def ck (i : Nat) : IntKind := if i = 2 then .u64 else .i64
/-- The numbers of a cell as an array. -/
def CA (c : Nat → Int) : Array Value := ((List.range 74).map fun i => Value.int (ck i) (c i)).toArray
/-- The numbers of a Hist as an array. -/
def HA (h : Nat → Int) : Array Value := ((List.range 65).map fun i => Value.int .i64 (h i)).toArray
def cup (f : Nat → Int) (p : Nat) (v : Int) : Nat → Int := fun i => if i = p then v else f i
def zc : Nat → Int := fun _ => 0

theorem CA_size (c : Nat → Int) : (CA c).size = 74 := by simp [CA]
theorem HA_size (c : Nat → Int) : (HA c).size = 65 := by simp [HA]
theorem CA_at (c : Nat → Int) (i : Nat) (h : i < 74) : (CA c)[i]? = some (.int (ck i) (c i)) := by simp [CA, h]
theorem CA_at64 (c : Nat → Int) (i : Nat) (h : i < 74) (h2 : i ≠ 2) : (CA c)[i]? = some (.int .i64 (c i)) := by rw [CA_at c i h, ck, if_neg h2]
theorem CA_at2 (c : Nat → Int) : (CA c)[2]? = some (.int .u64 (c 2)) := CA_at c 2 (by omega)
theorem HA_at (c : Nat → Int) (i : Nat) (h : i < 65) : (HA c)[i]? = some (.int .i64 (c i)) := by simp [HA, h]
theorem CA_one (c : Nat → Int) : (CA c).all (·.oneCell') = true := by
  refine Array.all_eq_true_iff_forall_mem.2 (fun v hv => ?_)
  simp [CA] at hv
  obtain ⟨i, _, rfl⟩ := hv
  rfl
theorem HA_one (c : Nat → Int) : (HA c).all (·.oneCell') = true := by
  refine Array.all_eq_true_iff_forall_mem.2 (fun v hv => ?_)
  simp [HA] at hv
  obtain ⟨i, _, rfl⟩ := hv
  rfl
theorem CA_congr {c d : Nat → Int} (h : ∀ i, i < 74 → c i = d i) : CA c = CA d := by
  unfold CA; congr 1; exact List.map_congr_left fun i hi => by rw [h i (by simpa using hi)]
theorem HA_congr {c d : Nat → Int} (h : ∀ i, i < 65 → c i = d i) : HA c = HA d := by
  unfold HA; congr 1; exact List.map_congr_left fun i hi => by rw [h i (by simpa using hi)]
theorem CA_set (c : Nat → Int) (i : Nat) (v : Int) (k : IntKind) (h : i < 74) (hk : k = ck i) : (CA c).setIfInBounds i (.int k v) = CA (cup c i v) := by
  subst hk
  apply Array.ext_getElem?
  intro j
  rw [Array.getElem?_setIfInBounds]
  by_cases e : i = j
  · subst e; rw [if_pos rfl, if_pos (by rw [CA_size]; exact h), CA_at _ i h, cup, if_pos rfl]
  · rw [if_neg e]
    by_cases hj : j < 74
    · rw [CA_at c j hj, CA_at _ j hj, cup, if_neg (Ne.symm e)]
    · rw [Array.getElem?_eq_none (by rw [CA_size]; omega), Array.getElem?_eq_none (by rw [CA_size]; omega)]
theorem HA_set (c : Nat → Int) (i : Nat) (v : Int) (h : i < 65) : (HA c).setIfInBounds i (.int .i64 v) = HA (cup c i v) := by
  apply Array.ext_getElem?
  intro j
  rw [Array.getElem?_setIfInBounds]
  by_cases e : i = j
  · subst e; rw [if_pos rfl, if_pos (by rw [HA_size]; exact h), HA_at _ i h, cup, if_pos rfl]
  · rw [if_neg e]
    by_cases hj : j < 65
    · rw [HA_at c j hj, HA_at _ j hj, cup, if_neg (Ne.symm e)]
    · rw [Array.getElem?_eq_none (by rw [HA_size]; omega), Array.getElem?_eq_none (by rw [HA_size]; omega)]
theorem CA_ext (c : Nat → Int) (i j : Nat) (hj : j ≤ 74) : ((CA c).extract i j)[0]? = if i < j then some (.int (ck i) (c i)) else none := by
  rw [Array.getElem?_extract]
  by_cases h : i < j
  · rw [if_pos (by rw [CA_size]; omega), if_pos h, Nat.add_zero, CA_at c i (by omega)]
  · rw [if_neg (by rw [CA_size]; omega), if_neg h]
theorem CA_hist (c : Nat → Int) : (CA c).extract 9 74 = HA (fun i => c (9 + i)) := by
  apply Array.ext_getElem?
  intro j
  rw [Array.getElem?_extract, CA_size]
  by_cases h : j < 65
  · rw [if_pos (by omega), CA_at64 c _ (by omega) (by omega), HA_at _ j h]
  · rw [if_neg (by omega), Array.getElem?_eq_none (by rw [HA_size]; omega)]

theorem zero_cell (w : World) : (zeroValue 80).run Try.prog w = .ok (.agg (CA zc)) w := by kernel_rfl
theorem zero_hist (w : World) : (zeroValue 78).run Try.prog w = .ok (.agg (HA zc)) w := by kernel_rfl
theorem info_cell (c : Nat → Int) : (Try.prog.info? 80).map (·.size) = some (CA c).size := by rw [CA_size]; kernel_rfl
theorem info_hist (c : Nat → Int) : (Try.prog.info? 78).map (·.size) = some (HA c).size := by rw [HA_size]; kernel_rfl

section
variable {ops : Array Oper} {rest : List Oper} {o : Oper} {a : Act} {w : World} {Q : Exit → Act → World → Prop}
theorem ld_cell (hgd : o.guard = none) {x : Operand} (ho : o.op = .load 80 x) {b : Nat} {c : Nat → Int} {t : TypeId} (hB : Blk w b (CA c) t) (hx : a.eval x = .pointer (some ⟨b, 0, none⟩))
    (h : wpList Try.prog ops Q rest (a.put o.dst (.agg (CA c))) w) : wpList Try.prog ops Q (o :: rest) a w :=
  ld_blk hgd ho hB hx _ Try.underlying80 rfl (info_cell c) h
theorem st_cell (hgd : o.guard = none) {x y : Operand} (ho : o.op = .store 80 x y) {b : Nat} {c d : Nat → Int} {t : TypeId} (hB : Blk w b (CA d) t) (hx : a.eval x = .pointer (some ⟨b, 0, none⟩)) (hy : a.eval y = .agg (CA c))
    (h : ∀ W', Blk W' b (CA c) t → Chg b w W' → wpList Try.prog ops Q rest (a.put o.dst undef) W') : wpList Try.prog ops Q (o :: rest) a w :=
  st_blk hgd ho hB hx hy (info_cell c) (by rw [CA_size, CA_size]) (CA_one c) h
theorem al_cell (hgd : o.guard = none) (ho : o.op = .alloc 80)
    (h : ∀ W', W' = w.alloc (.cells (CA zc) 80) → Blk W' w.heap.size (CA zc) 80 → Below w.heap.size w W' → wpList Try.prog ops Q rest (a.put o.dst (.pointer (some ⟨w.heap.size, 0, none⟩))) W') : wpList Try.prog ops Q (o :: rest) a w :=
  al_blk hgd ho (CA zc) (zero_cell w) h
theorem ld_hist (hgd : o.guard = none) {x : Operand} (ho : o.op = .load 78 x) {b : Nat} {c : Nat → Int} {t : TypeId} (hB : Blk w b (HA c) t) (hx : a.eval x = .pointer (some ⟨b, 0, none⟩))
    (h : wpList Try.prog ops Q rest (a.put o.dst (.agg (HA c))) w) : wpList Try.prog ops Q (o :: rest) a w :=
  ld_blk hgd ho hB hx _ Try.underlying78 rfl (info_hist c) h
/-- The Hist out of a cell's block. -/
theorem ld_hist9 (hgd : o.guard = none) {x : Operand} (ho : o.op = .load 78 x) {b : Nat} {c : Nat → Int} {t : TypeId} (hB : Blk w b (CA c) t) (hx : a.eval x = .pointer (some ⟨b, 9, none⟩))
    (h : wpList Try.prog ops Q rest (a.put o.dst (.agg (HA fun i => c (9 + i)))) w) : wpList Try.prog ops Q (o :: rest) a w := by
  have hr := World.rangeAt_of_block (w := w) (b := b) hB 9 65
  rw [show 9 + 65 = 74 from rfl, CA_hist] at hr
  refine wpList_load_mid hgd _ x ho b 9 hx _ _ hr Try.underlying78 rfl ?_ (by simpa using h)
  rw [info_hist (fun i => c (9 + i))]; simp
end

/-! Cells compared. -/
def eqC (c d : Nat → Int) : Bool := (List.range 74).all fun i => decide (c i = d i)
theorem eqC_iff (c d : Nat → Int) : eqC c d = true ↔ ∀ i, i < 74 → c i = d i := by simp [eqC]
theorem eqC_refl (c : Nat → Int) : eqC c c = true := by simp [eqC]
theorem eqItems_hist (n : Nat) (h k : Nat → Int) (w : World) : ∀ is : List Nat, (∀ i ∈ is, i < 65) → (Op.eqItems (n + 1) 3 1 (HA h) (HA k) is).run Try.prog w = .ok (is.all fun i => h i == k i) w
  | [], _ => by simp [Op.eqItems]
  | i :: is, hi => by
    have p1 : ∀ f : Nat → Int, (part 3 (HA f) i).run Try.prog w = .ok (.int .i64 (f i)) w := fun f => by
      simp [part, Try.isAgg3, HA_at f i (hi i (by simp)), go_sem]
    simp only [Op.eqItems, Sem.run_bind, Nat.mul_one, p1, Result.andThen_ok, run_equalIn_int w n 3 .i64 .i64 _ _ Try.underlying3]
    have ih := eqItems_hist n h k w is (fun j hj => hi j (by simp [hj]))
    by_cases e : h i = k i
    · simpa [e] using ih
    · simp [e]
theorem eq_hist (n : Nat) (h k : Nat → Int) (w : World) : (Op.equalIn (n + 1 + 1) 78 (.agg (HA h)) (.agg (HA k))).run Try.prog w = .ok ((List.range 65).all fun i => h i == k i) w := by
  obtain ⟨i, hi⟩ : ∃ i, Try.prog.info? 3 = some i := by
    cases hq : Try.prog.info? 3 with
    | none => exact absurd hq (by have : (Try.prog.info? 3).isSome = true := by kernel_rfl
                                  intro h; rw [h] at this; cases this)
    | some i => exact ⟨i, rfl⟩
  rw [run_equalIn_array w (n + 1) _ _ Try.underlying78 hi, show Try.prog.cellsOf 3 = 1 from by kernel_rfl]
  exact eqItems_hist n h k w _ (by simp)
theorem CA_part2 (c : Nat → Int) : (CA c).extract 1 3 = #[.int .i64 (c 1), .int .u64 (c 2)] := by
  apply Array.ext_getElem?
  intro j
  rw [Array.getElem?_extract, CA_size]
  match j with
  | 0 => rw [if_pos (by omega), CA_at64 c _ (by omega) (by omega)]; rfl
  | 1 => rw [if_pos (by omega), CA_at2]; rfl
  | n + 2 => rw [if_neg (by omega)]; simp
theorem CA_part4 (c : Nat → Int) : (CA c).extract 5 9 = #[.int .i64 (c 5), .int .i64 (c 6), .int .i64 (c 7), .int .i64 (c 8)] := by
  apply Array.ext_getElem?
  intro j
  rw [Array.getElem?_extract, CA_size]
  match j with
  | 0 => rw [if_pos (by omega), CA_at64 c _ (by omega) (by omega)]; rfl
  | 1 => rw [if_pos (by omega), CA_at64 c _ (by omega) (by omega)]; rfl
  | 2 => rw [if_pos (by omega), CA_at64 c _ (by omega) (by omega)]; rfl
  | 3 => rw [if_pos (by omega), CA_at64 c _ (by omega) (by omega)]; rfl
  | n + 4 => rw [if_neg (by omega)]; simp
theorem eq_fold (p : Prop) [Decidable p] (b : Bool) (w : World) : (if p then Result.ok b w else Result.ok false w) = Result.ok (decide p && b) w := by
  by_cases h : p <;> simp [h]
attribute [local go_sem] eq_fold
theorem eq_two (n : Nat) (a b c d : Int) (w : World) : (Op.equalIn (n + 1 + 1) 75 (.agg #[.int .i64 a, .int .u64 b]) (.agg #[.int .i64 c, .int .u64 d])).run Try.prog w = .ok (decide (a = c) && decide (b = d)) w := by
  have u3 := Try.underlying3
  have u4 := Try.underlying59
  rw [run_equalIn_agg w (n + 1) 75 _ _ (by kernel_rfl) (by kernel_rfl)]
  simp only [Program.fieldsOf, Try.underlying75]
  have i3 := Try.isAgg3
  have i4 := Try.isAgg59
  go_simp
theorem eq_four (n : Nat) (a b c d a' b' c' d' : Int) (w : World) : (Op.equalIn (n + 1 + 1) 77 (.agg #[.int .i64 a, .int .i64 b, .int .i64 c, .int .i64 d]) (.agg #[.int .i64 a', .int .i64 b', .int .i64 c', .int .i64 d'])).run Try.prog w =
    .ok (decide (a = a') && decide (b = b') && decide (c = c') && decide (d = d')) w := by
  have u3 := Try.underlying3
  rw [run_equalIn_agg w (n + 1) 77 _ _ (by kernel_rfl) (by kernel_rfl)]
  simp only [Program.fieldsOf, Try.underlying77]
  have i3 := Try.isAgg3
  go_simp
  by_cases h1 : a = a' <;> by_cases h2 : b = b' <;> by_cases h3 : c = c' <;> by_cases h4 : d = d' <;> simp [h1, h2, h3, h4]
theorem eqC_split (c d : Nat → Int) : eqC c d = ((c 0 == d 0) && (decide (c 1 = d 1) && decide (c 2 = d 2)) && (c 3 == d 3) && (c 4 == d 4) && (decide (c 5 = d 5) && decide (c 6 = d 6) && decide (c 7 = d 7) && decide (c 8 = d 8)) && ((List.range 65).all fun i => c (9 + i) == d (9 + i))) := by
  rw [Bool.eq_iff_iff, eqC_iff]
  simp only [Bool.and_eq_true, beq_iff_eq, decide_eq_true_eq, List.all_eq_true, List.mem_range]
  constructor
  · intro h
    exact ⟨⟨⟨⟨⟨h 0 (by omega), h 1 (by omega), h 2 (by omega)⟩, h 3 (by omega)⟩, h 4 (by omega)⟩, ⟨⟨h 5 (by omega), h 6 (by omega)⟩, h 7 (by omega)⟩, h 8 (by omega)⟩, fun i hi => h (9 + i) (by omega)⟩
  · rintro ⟨⟨⟨⟨⟨h0, h1, h2⟩, h3⟩, h4⟩, ⟨⟨h5, h6⟩, h7⟩, h8⟩, h9⟩ i hi
    match i, hi with
    | 0, _ => exact h0
    | 1, _ => exact h1
    | 2, _ => exact h2
    | 3, _ => exact h3
    | 4, _ => exact h4
    | 5, _ => exact h5
    | 6, _ => exact h6
    | 7, _ => exact h7
    | 8, _ => exact h8
    | n + 9, h => have := h9 n (by omega); rwa [Nat.add_comm 9 n] at this
theorem eq_cell (c d : Nat → Int) (w : World) : (binOp .eql 80 (.agg (CA c)) (.agg (CA d))).run Try.prog w = .ok (.bool (eqC c d)) w := by
  have u3 := Try.underlying3
  have i3 := Try.isAgg3
  have p0 : ∀ (f : Nat → Int) (i : Nat) (w : World), i < 74 → i ≠ 2 → (part 3 (CA f) i).run Try.prog w = .ok (.int .i64 (f i)) w := fun f i w hi h2 => by
    simp [part, i3, CA_at64 f i hi h2, go_sem]
  have p2 : ∀ (f : Nat → Int) (w : World), (part 75 (CA f) 1).run Try.prog w = .ok (.agg #[.int .i64 (f 1), .int .u64 (f 2)]) w := fun f w => by
    simp only [part, Sem.run_bind, Try.isAgg75, Try.sizeOf75, Result.andThen_ok, if_true, Sem.run_pure]
    rw [show 1 + 2 = 3 from rfl, CA_part2]
  have p4 : ∀ (f : Nat → Int) (w : World), (part 77 (CA f) 5).run Try.prog w = .ok (.agg #[.int .i64 (f 5), .int .i64 (f 6), .int .i64 (f 7), .int .i64 (f 8)]) w := fun f w => by
    simp only [part, Sem.run_bind, Try.isAgg77, Try.sizeOf77, Result.andThen_ok, if_true, Sem.run_pure]
    rw [show 5 + 4 = 9 from rfl, CA_part4]
  have p9 : ∀ (f : Nat → Int) (w : World), (part 78 (CA f) 9).run Try.prog w = .ok (.agg (HA fun i => f (9 + i))) w := fun f w => by
    simp only [part, Sem.run_bind, Try.isAgg78, Try.sizeOf78, Result.andThen_ok, if_true, Sem.run_pure]
    rw [show 9 + 65 = 74 from rfl, CA_hist]
  rw [run_eql_struct, show (10000 : Nat) = 9999 + 1 from rfl, run_equalIn_agg w 9999 80 _ _ (by kernel_rfl) (by kernel_rfl)]
  simp only [Program.fieldsOf, Try.underlying80]
  simp only [Op.eqFields, Sem.run_bind, Sem.run_ite, p0 _ 0 _ (by omega) (by omega), p0 _ 3 _ (by omega) (by omega), p0 _ 4 _ (by omega) (by omega), p2, p4, p9, Result.andThen_ok, show (9999 : Nat) = 9997 + 1 + 1 from rfl,
    run_equalIn_int _ _ 3 .i64 .i64 _ _ u3, eq_two, eq_four, eq_hist]
  rw [eqC_split]
  generalize (c 0 == d 0) = x0
  generalize (decide (c 1 = d 1) && decide (c 2 = d 2)) = x1
  generalize (c 3 == d 3) = x3
  generalize (c 4 == d 4) = x4
  generalize (decide (c 5 = d 5) && decide (c 6 = d 6) && decide (c 7 = d 7) && decide (c 8 = d 8)) = x5
  generalize ((List.range 65).all fun i => c (9 + i) == d (9 + i)) = x9
  cases x0 <;> cases x1 <;> cases x3 <;> cases x4 <;> cases x5 <;> cases x9 <;> simp
theorem eq_guard (x y : Operand) (xs ys : Array Value) (op : BinOp) (w : World) : (eqGuard op 80 x y (.agg xs) (.agg ys)).run Try.prog w = .ok () w := run_eqGuard_agg w op 80 x y xs ys (by kernel_rfl)
theorem eq_oper {o : Oper} {ρ : Operand → Value} {x y : Operand} {t' : TypeId} {c d : Nat → Int} (ho : o.op = .binOp .eql 80 x y t') (hx : ρ x = .agg (CA c)) (hy : ρ y = .agg (CA d)) (w : World) :
    (execOp ρ o).run Try.prog w = .ok (.value (.bool (eqC c d))) w := by
  unfold execOp
  simp only [ho, hx, hy, Sem.run_bind, eq_guard, eq_cell, Result.andThen_ok, Sem.run_pure]
theorem ld_oper {o : Oper} {ρ : Operand → Value} {x : Operand} {b : Nat} {c : Nat → Int} {t : TypeId} {w : World} (ho : o.op = .load 80 x) (hx : ρ x = .pointer (some ⟨b, 0, none⟩)) (hB : Blk w b (CA c) t) :
    (execOp ρ o).run Try.prog w = .ok (.value (.agg (CA c))) w := by
  unfold execOp
  simp only [ho, hx, Instr.loadAt, Instr.sureAddr, Sem.run_bind, Sem.run_pure, Result.andThen_ok, run_loadVar_row w b t 80 (CA c) (0, 0) _ hB Try.underlying80 rfl (info_cell c)]
theorem q_ld_cell {ops : Array Oper} {w : World} {Q : Act → Prop} {a : Act} {o : Oper} {rest : List Oper} {x : Operand} {b : Nat} {c : Nat → Int} {t : TypeId} (hw : Region.wanted o (yielded ops a.tmps) = true)
    (ho : o.op = .load 80 x) (hx : a.eval x = .pointer (some ⟨b, 0, none⟩)) (hB : Blk w b (CA c) t) (h : wpQuiet Try.prog ops (fun w' => ∃ x : Cls w, w' = x.val) Q rest (a.put o.dst (.agg (CA c)))) :
    wpQuiet Try.prog ops (fun w' => ∃ x : Cls w, w' = x.val) Q (o :: rest) a :=
  quiet_val hw _ (fun w' ⟨x, hx'⟩ => ld_oper ho hx (hx' ▸ hB.keep x.prop)) h
theorem q_eql_cell {ops : Array Oper} {w : World} {Q : Act → Prop} {a : Act} {o : Oper} {rest : List Oper} {x y : Operand} {t' : TypeId} {c d : Nat → Int} (hw : Region.wanted o (yielded ops a.tmps) = true)
    (ho : o.op = .binOp .eql 80 x y t') (hx : a.eval x = .agg (CA c)) (hy : a.eval y = .agg (CA d)) (h : wpQuiet Try.prog ops (fun w' => ∃ x : Cls w, w' = x.val) Q rest (a.put o.dst (.bool (eqC c d)))) :
    wpQuiet Try.prog ops (fun w' => ∃ x : Cls w, w' = x.val) Q (o :: rest) a :=
  quiet_val hw _ (fun w' _ => eq_oper ho hx hy w') h
section
variable {ops : Array Oper} {rest : List Oper} {o : Oper} {a : Act} {w : World} {Q : Exit → Act → World → Prop}
/-- A cell out of the middle of a row. -/
theorem ld_cell_mid (hgd : o.guard = none) {x : Operand} (ho : o.op = .load 80 x) {b q : Nat} {c : Nat → Int} (hr : w.rangeAt b q (CA c).toList) (hx : a.eval x = .pointer (some ⟨b, q, none⟩))
    (h : wpList Try.prog ops Q rest (a.put o.dst (.agg (CA c))) w) : wpList Try.prog ops Q (o :: rest) a w := by
  refine wpList_load_mid hgd _ x ho b q hx _ _ hr Try.underlying80 rfl ?_ (by simpa using h)
  rw [info_cell c]; simp
theorem eql_cell (hgd : o.guard = none) {x y : Operand} {t' : TypeId} {c d : Nat → Int} (ho : o.op = .binOp .eql 80 x y t') (hx : a.eval x = .agg (CA c)) (hy : a.eval y = .agg (CA d))
    (h : wpList Try.prog ops Q rest (a.put o.dst (.bool (eqC c d))) w) : wpList Try.prog ops Q (o :: rest) a w := by
  refine wpList_plain hgd fun K hK => ?_
  unfold Oper.wp
  rw [eq_oper ho hx hy w, Oper.upon_value]
  exact hK _ _ h
end
end Go.Proofs.Ytjbhicjnnghjjaa
namespace Go.Proofs.Ytjbhicjnnghjjaa
open Go.RowKit Go.Shelf
set_option linter.unusedVariables false
attribute [local go_sem] Oper.semAt_some

/-- A place and its number. -/
abbrev Pl := { p : Nat × Int // p.1 < 65 ∧ -9223372036854775808 ≤ p.2 ∧ p.2 ≤ 9223372036854775807 }
abbrev Pl.encs (p : Pl) : Array Value := #[.int .i64 (p.1.1 : Int), .int .i64 p.1.2]
/-- The pairs of the first k places. -/
def prs (h : Nat → Int) (hb : ∀ i, i < 65 → -9223372036854775808 ≤ h i ∧ h i ≤ 9223372036854775807) : Nat → List Pl
  | 0 => []
  | k + 1 => if hk : k < 65 then (if h k = 0 then prs h hb k else prs h hb k ++ [⟨(k, h k), hk, hb k hk⟩]) else prs h hb k
theorem prs_len (h : Nat → Int) (hb) : ∀ k, (prs h hb k).length ≤ k
  | 0 => by simp [prs]
  | k + 1 => by
    have := prs_len h hb k
    unfold prs
    split
    · split
      · omega
      · simp; omega
    · omega

theorem pairs_any (h : Nat → Int) (w : World) :
    Calls Try.prog 63 #[.agg (HA h)] w fun e w' => e = .returned (.func (.func 67) #[] #[.pointer (some ⟨w.heap.size, 0, none⟩)]) ∧ w' = w.alloc (.cells (HA h) 78) := by
  go_enter Try.func63, Try.ntmps63
  go_wp2_with fail
  go_ret
  exact ⟨rfl, rfl⟩

theorem index_hist (h : Nat → Int) (k : Nat) (hk : k < 65) (W : World) : (Instr.index 78 (.agg (HA h)) (.int .i64 (k : Int))).run Try.prog W = .ok (.int .i64 (h k)) W := by
  have hp : (part 3 (HA h) k).run Try.prog W = .ok (.int .i64 (h k)) W := by simp [part, Try.isAgg3, HA_at h k hk, go_sem]
  unfold Instr.index
  simp only [asIntOf, Sem.run_bind, Sem.run_pure, Result.andThen_ok, run_underlying Try.underlying78]
  rw [if_pos (by omega)]
  simpa [Sem.run_bind, Try.sizeOf3] using hp

theorem pairs_stops (n : Nat) (hn : 1 ≤ n) (B : Nat) (h : Nat → Int) (hb : ∀ i, i < 65 → -9223372036854775808 ≤ h i ∧ h i ≤ 9223372036854775807) (w : World) (hB : Blk w B (HA h) 78) (Kp : World → World → Prop) :
    SeqStopsK Fence.wide n Try.prog 67 #[.pointer (some ⟨B, 0, none⟩)] Pl.encs Kp (fun xs => xs = prs h hb 65) (fun _ => True) 65 w := fun l J Jx W hW _ _ hY h0 => by
  have hBW := hB.keep hW
  have IX := fun (k : Nat) (hk : k < 65) => index_hist h k hk
  refine callsIn_wide.2 ?_
  go_enter Try.func67, Try.ntmps67
  go_wp2_with (refine ld_hist rfl rfl hBW rfl ?_)
  refine (wpIn_wide (n := n)).1 ?_
  gi_loopw [6] (fun i wr => ∃ k : Nat, k ≤ 65 ∧ i = .int .i64 (k : Int) ∧ J (prs h hb k) wr) (fun i _ => 65 - (intOf i).toNat)
  case atStart => exact ⟨0, by omega, rfl, h0⟩
  case round =>
    obtain ⟨k, hk, rfl, hJ⟩ := hrel
    by_cases c : k = 65
    · subst c
      gi_wp2
      go_end0
      exact ⟨⟨_, rfl⟩, .inl ⟨_, rfl, hJ⟩⟩
    · have hk' : k < 65 := by omega
      have hix := IX k hk'
      by_cases z : h k = 0
      · have HP : Hid (prs h hb (k + 1) = prs h hb k) := by show _ = _; rw [prs, dif_pos hk', if_pos z]
        gi_wp2
        refine ⟨fun _ h => (by cases h), ?_⟩
        gi_wp2
        go_roundw
        case rel => exact ⟨k + 1, by omega, by go_num, HP.out ▸ hJ⟩
        case measure => simp [intOf]; omega
      · have HP : Hid (prs h hb (k + 1) = prs h hb k ++ [⟨(k, h k), hk', hb k hk'⟩]) := by show _ = _; rw [prs, dif_pos hk', if_neg z]
        obtain ⟨fn, tmps, assign, body, hy, hR⟩ := hY (prs h hb k) ⟨(k, h k), hk', hb k hk'⟩ wr hJ (by have := prs_len h hb k; omega)
        dsimp only [Pl.encs] at hy
        gi_wp2
        refine hR.mono ?_
        rintro e W3 (⟨rfl, hJ3, _⟩ | ⟨rfl, hJx3⟩)
        · gi_wp2
          go_roundw
          case rel => exact ⟨k + 1, by omega, by go_num, HP.out ▸ hJ3⟩
          case measure => simp [intOf]; omega
        · gi_wp2
          refine bodyPost_ret (results_none rfl _ _ _) rfl ?_
          exact ⟨⟨_, rfl⟩, .inr ⟨_, trivial, hJx3⟩⟩
end Go.Proofs.Ytjbhicjnnghjjaa
namespace Go.Proofs.Ytjbhicjnnghjjaa
open Go.RowKit Go.Shelf
set_option linter.unusedVariables false
attribute [local go_sem] Oper.semAt_some

/-- Each number fits its kind. -/
def Wf (c : Nat → Int) : Prop := (0 ≤ c 2 ∧ c 2 ≤ 18446744073709551615) ∧ ∀ i, i < 74 → i ≠ 2 → -9223372036854775808 ≤ c i ∧ c i ≤ 9223372036854775807

theorem cup_same (f : Nat → Int) (p : Nat) (v : Int) : cup f p v p = v := by simp [cup]
theorem cup_ne (f : Nat → Int) (p i : Nat) (v : Int) (h : i ≠ p) : cup f p v i = f i := by simp [cup, h]

theorem Blk.nine {W : World} {b : Nat} {c : Nat → Int} {t : TypeId} (h : Blk W b (CA c) t) :
    W.cell? ⟨b, 0, none⟩ = some (.int .i64 (c 0)) ∧ W.cell? ⟨b, 1, none⟩ = some (.int .i64 (c 1)) ∧ W.cell? ⟨b, 2, none⟩ = some (.int .u64 (c 2)) ∧ W.cell? ⟨b, 3, none⟩ = some (.int .i64 (c 3)) ∧ W.cell? ⟨b, 4, none⟩ = some (.int .i64 (c 4)) ∧
    W.cell? ⟨b, 5, none⟩ = some (.int .i64 (c 5)) ∧ W.cell? ⟨b, 6, none⟩ = some (.int .i64 (c 6)) ∧ W.cell? ⟨b, 7, none⟩ = some (.int .i64 (c 7)) ∧ W.cell? ⟨b, 8, none⟩ = some (.int .i64 (c 8)) :=
  ⟨h.at (CA_at64 c 0 (by omega) (by omega)), h.at (CA_at64 c 1 (by omega) (by omega)), h.at (CA_at2 c), h.at (CA_at64 c 3 (by omega) (by omega)), h.at (CA_at64 c 4 (by omega) (by omega)), h.at (CA_at64 c 5 (by omega) (by omega)), h.at (CA_at64 c 6 (by omega) (by omega)), h.at (CA_at64 c 7 (by omega) (by omega)), h.at (CA_at64 c 8 (by omega) (by omega))⟩
theorem Blk.setN {W : World} {b : Nat} {c : Nat → Int} {t : TypeId} (h : Blk W b (CA c) t) (i : Nat) (v : Int) (k : IntKind) (hi : i < 74) (hk : k = ck i) : Blk (W.setCell ⟨b, i, none⟩ (.int k v)) b (CA (cup c i v)) t := by
  rw [← CA_set c i v k hi hk]; exact h.set i _

/-- Behind the numbers that aren't of the Hist. -/
def headF (a b : Nat → Int) : Nat → Int := fun i =>
  if i = 0 then wrap64 (a 0 + b 0)
  else if i = 1 then wh (wv (a 1) (a 2) + wv (b 1) (b 2))
  else if i = 2 then wl (wv (a 1) (a 2) + wv (b 1) (b 2))
  else if i = 3 then min (a 3) (b 3)
  else if i = 4 then max (a 4) (b 4)
  else if i < 9 then (if ltr (b 5) (b 6) (b 7) (b 8) (a 5) (a 6) (a 7) (a 8) then b i else a i)
  else a i

/-- The pairs' numbers added at their places. -/
def addP (f : Nat → Int) : List Pl → Nat → Int
  | [] => f
  | p :: r => addP (cup f (9 + p.1.1) (wrap64 (f (9 + p.1.1) + p.1.2))) r
theorem addP_snoc (x : Pl) : ∀ (pre : List Pl) (f : Nat → Int), addP f (pre ++ [x]) = cup (addP f pre) (9 + x.1.1) (wrap64 (addP f pre (9 + x.1.1) + x.1.2))
  | [], f => rfl
  | p :: r, f => addP_snoc x r _

def bothF (a b : Nat → Int) : Nat → Int := fun i => if i < 9 then headF a b i else wrap64 (a i + b i)
theorem addP_prs_at (f h : Nat → Int) (hb) : ∀ k, k ≤ 65 → ∀ i, addP f (prs h hb k) i = if 9 ≤ i ∧ i < 9 + k ∧ h (i - 9) ≠ 0 then wrap64 (f i + h (i - 9)) else f i
  | 0, _, i => by rw [if_neg (by omega)]; rfl
  | k + 1, hk, i => by
    have ih := addP_prs_at f h hb k (by omega)
    rw [prs, dif_pos (by omega)]
    by_cases z : h k = 0
    · rw [if_pos z, ih i]
      by_cases c : i = 9 + k
      · subst c; rw [if_neg (by omega), if_neg (by rw [Nat.add_sub_cancel_left]; simp [z])]
      · by_cases d : 9 ≤ i ∧ i < 9 + k ∧ h (i - 9) ≠ 0
        · rw [if_pos d, if_pos ⟨d.1, by omega, d.2.2⟩]
        · rw [if_neg d, if_neg (by intro e; exact d ⟨e.1, by omega, e.2.2⟩)]
    · rw [if_neg z, addP_snoc]
      dsimp only
      by_cases c : i = 9 + k
      · subst c
        rw [cup_same, ih, if_neg (by omega), if_pos ⟨by omega, by omega, by rw [Nat.add_sub_cancel_left]; exact z⟩, Nat.add_sub_cancel_left]
      · rw [cup_ne _ _ _ _ c, ih i]
        by_cases d : 9 ≤ i ∧ i < 9 + k ∧ h (i - 9) ≠ 0
        · rw [if_pos d, if_pos ⟨d.1, by omega, d.2.2⟩]
        · rw [if_neg d, if_neg (by intro e; exact d ⟨e.1, by omega, e.2.2⟩)]
theorem addP_prs (a b : Nat → Int) (ha : Wf a) (hw : Wf b) (hb : ∀ i, i < 65 → -9223372036854775808 ≤ b (9 + i) ∧ b (9 + i) ≤ 9223372036854775807) : ∀ i, i < 74 → addP (headF a b) (prs (fun i => b (9 + i)) hb 65) i = bothF a b i := by
  intro i hi
  rw [addP_prs_at _ _ _ 65 (by omega)]
  unfold bothF
  by_cases c : i < 9
  · rw [if_neg (by omega), if_pos c]
  · rw [if_neg c, show 9 + (i - 9) = i by omega]
    have e : headF a b i = a i := by unfold headF; rw [if_neg (by omega), if_neg (by omega), if_neg (by omega), if_neg (by omega), if_neg (by omega), if_neg c]
    rw [e]
    by_cases z : b i = 0
    · rw [if_neg (by simp [z]), z, Int.add_zero]
      have := ha.2 i hi (by omega)
      unfold wrap64; omega
    · rw [if_pos ⟨by omega, by omega, z⟩]

theorem head_no (a b c4 : Nat → Int) (hc4 : c4 = cup (cup (cup (cup (cup a 0 (wrap64 (a 0 + b 0))) 1 (wh (wv (a 1) (a 2) + wv (b 1) (b 2)))) 2 (wl (wv (a 1) (a 2) + wv (b 1) (b 2)))) 3 (min (a 3) (b 3))) 4 (max (a 4) (b 4)))
    (hl : ltr (b 5) (b 6) (b 7) (b 8) (a 5) (a 6) (a 7) (a 8) = false) : ∀ i, i < 74 → c4 i = headF a b i := by
  intro i hi
  subst hc4
  unfold headF cup
  rw [hl]
  by_cases e4 : i = 4
  · subst e4; simp
  by_cases e3 : i = 3
  · subst e3; simp
  by_cases e2 : i = 2
  · subst e2; simp
  by_cases e1 : i = 1
  · subst e1; simp
  by_cases e0 : i = 0
  · subst e0; simp
  simp [e0, e1, e2, e3, e4]
theorem head_yes (a b c4 : Nat → Int) (hc4 : c4 = cup (cup (cup (cup (cup a 0 (wrap64 (a 0 + b 0))) 1 (wh (wv (a 1) (a 2) + wv (b 1) (b 2)))) 2 (wl (wv (a 1) (a 2) + wv (b 1) (b 2)))) 3 (min (a 3) (b 3))) 4 (max (a 4) (b 4)))
    (hl : ltr (b 5) (b 6) (b 7) (b 8) (a 5) (a 6) (a 7) (a 8) = true) : ∀ i, i < 74 → cup (cup (cup (cup c4 5 (b 5)) 6 (b 6)) 7 (b 7)) 8 (b 8) i = headF a b i := by
  intro i hi
  subst hc4
  unfold headF cup
  rw [hl]
  by_cases e8 : i = 8
  · subst e8; simp
  by_cases e7 : i = 7
  · subst e7; simp
  by_cases e6 : i = 6
  · subst e6; simp
  by_cases e5 : i = 5
  · subst e5; simp
  by_cases e4 : i = 4
  · subst e4; simp
  by_cases e3 : i = 3
  · subst e3; simp
  by_cases e2 : i = 2
  · subst e2; simp
  by_cases e1 : i = 1
  · subst e1; simp
  by_cases e0 : i = 0
  · subst e0; simp
  have : ¬ i < 9 := by omega
  simp [e0, e1, e2, e3, e4, e5, e6, e7, e8, this]

theorem blk_kept {W W' : World} {row : Option Nat} {b : Nat} {vs : Array Value} {t : TypeId} (h : Blk W b vs t) (hg : W.grownBy W' row) (hr : ∀ r, row = some r → ∃ o : Obj, W.heap[r]? = some o ∧ o.isCells = false) : Blk W' b vs t :=
  (grownBy_keeps_cells hg hr h rfl).trans h

end Go.Proofs.Ytjbhicjnnghjjaa
namespace Go.Proofs.Ytjbhicjnnghjjaa
open Go.RowKit Go.Shelf
set_option linter.unusedVariables false

theorem built0 : Try.prog.built 80 [] = some (CA zc) := by kernel_rfl
theorem unit_any (w : World) : Calls Try.prog 69 #[] w fun e w' => e = .returned (.agg (CA zc)) ∧ Below w.heap.size w w' := by
  have zz := zero_cell
  go_enter Try.func69, Try.ntmps69
  go_wp2_with (first
    | (refine al_cell rfl rfl ?_; intro W1 e1 hR hw; clear e1)
    | (refine st_cell rfl rfl hR rfl rfl ?_; intro W2 hR2 C2))
  exact bodyPost_ret (results_cell_row rfl _ _ _ 80 _ (0, 0) _ rfl hR2 Try.underlying80 rfl (info_cell _)) rfl ⟨rfl, ab_chg hw C2 (by omega)⟩

/-- What cells come to, so far. -/
def stepJ (s : Option (Nat → Int)) (c : Nat → Int) : Option (Nat → Int) :=
  if eqC c zc then s else some (match s with | none => c | some x => bothF x c)
theorem stepJ_unit {s : Option (Nat → Int)} {c : Nat → Int} (h : eqC c zc = true) : stepJ s c = s := by unfold stepJ; rw [if_pos h]
theorem stepJ_none {c : Nat → Int} (h : eqC c zc = false) : stepJ none c = some c := by unfold stepJ; rw [if_neg (by rw [h]; simp)]
theorem stepJ_some {x c : Nat → Int} (h : eqC c zc = false) : stepJ (some x) c = some (bothF x c) := by unfold stepJ; rw [if_neg (by rw [h]; simp)]
def joinO (l : List (Nat → Int)) : Option (Nat → Int) := l.foldl stepJ none
def joinF (l : List (Nat → Int)) : Nat → Int := (joinO l).getD zc
theorem joinO_snoc (l : List (Nat → Int)) (c : Nat → Int) : joinO (l ++ [c]) = stepJ (joinO l) c := by simp [joinO]
theorem wf_zc : Wf zc := ⟨by simp [zc], fun i _ _ => by simp [zc]⟩
theorem wf_both {a b : Nat → Int} (ha : Wf a) (hb : Wf b) : Wf (bothF a b) := by
  refine ⟨?_, fun i hi h2 => ?_⟩
  · have : bothF a b 2 = wl (wv (a 1) (a 2) + wv (b 1) (b 2)) := rfl
    rw [this]; have := wl_bd (wv (a 1) (a 2) + wv (b 1) (b 2)); omega
  · unfold bothF headF
    have a3 := ha.2 3 (by omega) (by omega)
    have b3 := hb.2 3 (by omega) (by omega)
    have a4 := ha.2 4 (by omega) (by omega)
    have b4 := hb.2 4 (by omega) (by omega)
    have ai := ha.2 i hi h2
    have bi := hb.2 i hi h2
    have hh := wh_bd (wv (a 1) (a 2) + wv (b 1) (b 2))
    repeat' split
    all_goals first | omega | (unfold wrap64; omega)

theorem wf_stepJ {s : Option (Nat → Int)} {c : Nat → Int} (hs : ∀ x, s = some x → Wf x) (hc : Wf c) : ∀ x, stepJ s c = some x → Wf x := by
  intro x hx
  unfold stepJ at hx
  split at hx
  · exact hs x hx
  · cases s with
    | none => simp at hx; subst hx; exact hc
    | some y => simp at hx; subst hx; exact wf_both (hs y rfl) hc
theorem wf_fold : ∀ (l : List (Nat → Int)) (s : Option (Nat → Int)), (∀ c ∈ l, Wf c) → (∀ x, s = some x → Wf x) → ∀ x, l.foldl stepJ s = some x → Wf x
  | [], s, _, hs => hs
  | c :: l, s, hl, hs => wf_fold l (stepJ s c) (fun d hd => hl d (by simp [hd])) (wf_stepJ hs (hl c (by simp)))
theorem wf_joinO (l : List (Nat → Int)) (h : ∀ c ∈ l, Wf c) : ∀ x, joinO l = some x → Wf x := wf_fold l none h (fun _ e => by cases e)
theorem wf_joinF (l : List (Nat → Int)) (h : ∀ c ∈ l, Wf c) : Wf (joinF l) := by
  unfold joinF
  cases e : joinO l with
  | none => exact wf_zc
  | some x => exact wf_joinO l h x e

/-- A row of cells in memory. -/
def CRow (W : World) (g off : Nat) (l : List (Nat → Int)) : Prop := ∀ j c, l[j]? = some c → W.rangeAt g (off + j * 74) (CA c).toList

end Go.Proofs.Ytjbhicjnnghjjaa
