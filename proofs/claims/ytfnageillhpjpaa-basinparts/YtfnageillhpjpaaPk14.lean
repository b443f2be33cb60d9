/-
  Cells as arrays of numbers: 74 of them, the third unsigned. Whole cells out of blocks, into blocks, compared.
-/
import Derived.Test.YtfnageillhpjpaaRows
import Derived.Test.YtfnageillhpjpaaPk05
import Derived.Test.YtfnageillhpjpaaPk07
import Derived.Laws.StructEq
import Derived.ChangeKeysEq
namespace Go.Proofs.Ytfnageillhpjpaa
set_option maxRecDepth 100000
open Go.RowKit
set_option linter.unusedVariables false

/-- The kinds of a cell's numbers. -/
def ck (i : Nat) : IntKind := if i = 2 then .u64 else .i64
/-- The numbers of a cell as an array. -/
def CA (c : Nat → Int) : Array Value := ((List.range 74).map fun i => Value.int (ck i) (c i)).toArray
/-- The numbers of a Hist as an array. -/
def HA (h : Nat → Int) : Array Value := ((List.range 65).map fun i => Value.int .i64 (h i)).toArray
def cup (f : Nat → Int) (p : Nat) (v : Int) : Nat → Int := fun i => if i = p then v else f i
def zc : Nat → Int := fun _ => 0

theorem CA_size (c : Nat → Int) : (CA c).size = 74 := by simp [CA]
theorem HA_size (c : Nat → Int) : (HA c).size = 65 := by simp [HA]
theorem CA_at (c : Nat → Int) (i : Nat) (h : i < 74) : (CA c)[i]? = some (.int (ck i) (c i)) := by simp [CA, h]
theorem CA_at64 (c : Nat → Int) (i : Nat) (h : i < 74) (h2 : i ≠ 2) : (CA c)[i]? = some (.int .i64 (c i)) := by rw [CA_at c i h, ck, if_neg h2]
theorem CA_at2 (c : Nat → Int) : (CA c)[2]? = some (.int .u64 (c 2)) := CA_at c 2 (by omega)
theorem HA_at (c : Nat → Int) (i : Nat) (h : i < 65) : (HA c)[i]? = some (.int .i64 (c i)) := by simp [HA, h]
theorem CA_one (c : Nat → Int) : (CA c).all (·.oneCell') = true := by
  refine Array.all_eq_true_iff_forall_mem.2 (fun v hv => ?_)
  simp [CA] at hv
  obtain ⟨i, _, rfl⟩ := hv
  rfl
theorem HA_one (c : Nat → Int) : (HA c).all (·.oneCell') = true := by
  refine Array.all_eq_true_iff_forall_mem.2 (fun v hv => ?_)
  simp [HA] at hv
  obtain ⟨i, _, rfl⟩ := hv
  rfl
theorem CA_congr {c d : Nat → Int} (h : ∀ i, i < 74 → c i = d i) : CA c = CA d := by
  unfold CA; congr 1; exact List.map_congr_left fun i hi => by rw [h i (by simpa using hi)]
theorem HA_congr {c d : Nat → Int} (h : ∀ i, i < 65 → c i = d i) : HA c = HA d := by
  unfold HA; congr 1; exact List.map_congr_left fun i hi => by rw [h i (by simpa using hi)]
theorem CA_set (c : Nat → Int) (i : Nat) (v : Int) (k : IntKind) (h : i < 74) (hk : k = ck i) : (CA c).setIfInBounds i (.int k v) = CA (cup c i v) := by
  subst hk
  apply Array.ext_getElem?
  intro j
  rw [Array.getElem?_setIfInBounds]
  by_cases e : i = j
  · subst e; rw [if_pos rfl, if_pos (by rw [CA_size]; exact h), CA_at _ i h, cup, if_pos rfl]
  · rw [if_neg e]
    by_cases hj : j < 74
    · rw [CA_at c j hj, CA_at _ j hj, cup, if_neg (Ne.symm e)]
    · rw [Array.getElem?_eq_none (by rw [CA_size]; omega), Array.getElem?_eq_none (by rw [CA_size]; omega)]
theorem HA_set (c : Nat → Int) (i : Nat) (v : Int) (h : i < 65) : (HA c).setIfInBounds i (.int .i64 v) = HA (cup c i v) := by
  apply Array.ext_getElem?
  intro j
  rw [Array.getElem?_setIfInBounds]
  by_cases e : i = j
  · subst e; rw [if_pos rfl, if_pos (by rw [HA_size]; exact h), HA_at _ i h, cup, if_pos rfl]
  · rw [if_neg e]
    by_cases hj : j < 65
    · rw [HA_at c j hj, HA_at _ j hj, cup, if_neg (Ne.symm e)]
    · rw [Array.getElem?_eq_none (by rw [HA_size]; omega), Array.getElem?_eq_none (by rw [HA_size]; omega)]
theorem CA_ext (c : Nat → Int) (i j : Nat) (hj : j ≤ 74) : ((CA c).extract i j)[0]? = if i < j then some (.int (ck i) (c i)) else none := by
  rw [Array.getElem?_extract]
  by_cases h : i < j
  · rw [if_pos (by rw [CA_size]; omega), if_pos h, Nat.add_zero, CA_at c i (by omega)]
  · rw [if_neg (by rw [CA_size]; omega), if_neg h]
theorem CA_hist (c : Nat → Int) : (CA c).extract 9 74 = HA (fun i => c (9 + i)) := by
  apply Array.ext_getElem?
  intro j
  rw [Array.getElem?_extract, CA_size]
  by_cases h : j < 65
  · rw [if_pos (by omega), CA_at64 c _ (by omega) (by omega), HA_at _ j h]
  · rw [if_neg (by omega), Array.getElem?_eq_none (by rw [HA_size]; omega)]

theorem zero_cell (w : World) : (zeroValue 54).run Try.prog w = .ok (.agg (CA zc)) w := by kernel_rfl
theorem zero_hist (w : World) : (zeroValue 52).run Try.prog w = .ok (.agg (HA zc)) w := by kernel_rfl
theorem info_cell (c : Nat → Int) : (Try.prog.info? 54).map (·.size) = some (CA c).size := by rw [CA_size]; kernel_rfl
theorem info_hist (c : Nat → Int) : (Try.prog.info? 52).map (·.size) = some (HA c).size := by rw [HA_size]; kernel_rfl

section
variable {ops : Array Oper} {rest : List Oper} {o : Oper} {a : Act} {w : World} {Q : Exit → Act → World → Prop}
theorem ld_cell (hgd : o.guard = none) {x : Operand} (ho : o.op = .load 54 x) {b : Nat} {c : Nat → Int} {t : TypeId} (hB : Blk w b (CA c) t) (hx : a.eval x = .pointer (some ⟨b, 0, none⟩))
    (h : wpList Try.prog ops Q rest (a.put o.dst (.agg (CA c))) w) : wpList Try.prog ops Q (o :: rest) a w :=
  ld_blk hgd ho hB hx _ Try.underlying54 rfl (info_cell c) h
theorem st_cell (hgd : o.guard = none) {x y : Operand} (ho : o.op = .store 54 x y) {b : Nat} {c d : Nat → Int} {t : TypeId} (hB : Blk w b (CA d) t) (hx : a.eval x = .pointer (some ⟨b, 0, none⟩)) (hy : a.eval y = .agg (CA c))
    (h : ∀ W', Blk W' b (CA c) t → Chg b w W' → wpList Try.prog ops Q rest (a.put o.dst undef) W') : wpList Try.prog ops Q (o :: rest) a w :=
  st_blk hgd ho hB hx hy (info_cell c) (by rw [CA_size, CA_size]) (CA_one c) h
theorem al_cell (hgd : o.guard = none) (ho : o.op = .alloc 54)
    (h : ∀ W', W' = w.alloc (.cells (CA zc) 54) → Blk W' w.heap.size (CA zc) 54 → Below w.heap.size w W' → wpList Try.prog ops Q rest (a.put o.dst (.pointer (some ⟨w.heap.size, 0, none⟩))) W') : wpList Try.prog ops Q (o :: rest) a w :=
  al_blk hgd ho (CA zc) (zero_cell w) h
theorem ld_hist (hgd : o.guard = none) {x : Operand} (ho : o.op = .load 52 x) {b : Nat} {c : Nat → Int} {t : TypeId} (hB : Blk w b (HA c) t) (hx : a.eval x = .pointer (some ⟨b, 0, none⟩))
    (h : wpList Try.prog ops Q rest (a.put o.dst (.agg (HA c))) w) : wpList Try.prog ops Q (o :: rest) a w :=
  ld_blk hgd ho hB hx _ Try.underlying52 rfl (info_hist c) h
/-- The Hist out of a cell's block. -/
theorem ld_hist9 (hgd : o.guard = none) {x : Operand} (ho : o.op = .load 52 x) {b : Nat} {c : Nat → Int} {t : TypeId} (hB : Blk w b (CA c) t) (hx : a.eval x = .pointer (some ⟨b, 9, none⟩))
    (h : wpList Try.prog ops Q rest (a.put o.dst (.agg (HA fun i => c (9 + i)))) w) : wpList Try.prog ops Q (o :: rest) a w := by
  have hr := World.rangeAt_of_block (w := w) (b := b) hB 9 65
  rw [show 9 + 65 = 74 from rfl, CA_hist] at hr
  refine wpList_load_mid hgd _ x ho b 9 hx _ _ hr Try.underlying52 rfl ?_ (by simpa using h)
  rw [info_hist (fun i => c (9 + i))]; simp
end

/-! Cells compared. -/
def eqC (c d : Nat → Int) : Bool := (List.range 74).all fun i => decide (c i = d i)
theorem eqC_iff (c d : Nat → Int) : eqC c d = true ↔ ∀ i, i < 74 → c i = d i := by simp [eqC]
theorem eqC_refl (c : Nat → Int) : eqC c c = true := by simp [eqC]
theorem eqItems_hist (n : Nat) (h k : Nat → Int) (w : World) : ∀ is : List Nat, (∀ i ∈ is, i < 65) → (Op.eqItems (n + 1) 3 1 (HA h) (HA k) is).run Try.prog w = .ok (is.all fun i => h i == k i) w
  | [], _ => by simp [Op.eqItems]
  | i :: is, hi => by
    have p1 : ∀ f : Nat → Int, (part 3 (HA f) i).run Try.prog w = .ok (.int .i64 (f i)) w := fun f => by
      simp [part, Try.isAgg3, HA_at f i (hi i (by simp)), go_sem]
    simp only [Op.eqItems, Sem.run_bind, Nat.mul_one, p1, Result.andThen_ok, run_equalIn_int w n 3 .i64 .i64 _ _ Try.underlying3]
    have ih := eqItems_hist n h k w is (fun j hj => hi j (by simp [hj]))
    by_cases e : h i = k i
    · simpa [e] using ih
    · simp [e]
theorem eq_hist (n : Nat) (h k : Nat → Int) (w : World) : (Op.equalIn (n + 1 + 1) 52 (.agg (HA h)) (.agg (HA k))).run Try.prog w = .ok ((List.range 65).all fun i => h i == k i) w := by
  obtain ⟨i, hi⟩ : ∃ i, Try.prog.info? 3 = some i := by
    cases hq : Try.prog.info? 3 with
    | none => exact absurd hq (by have : (Try.prog.info? 3).isSome = true := by kernel_rfl
                                  intro h; rw [h] at this; cases this)
    | some i => exact ⟨i, rfl⟩
  rw [run_equalIn_array w (n + 1) _ _ Try.underlying52 hi, show Try.prog.cellsOf 3 = 1 from by kernel_rfl]
  exact eqItems_hist n h k w _ (by simp)
theorem CA_part2 (c : Nat → Int) : (CA c).extract 1 3 = #[.int .i64 (c 1), .int .u64 (c 2)] := by
  apply Array.ext_getElem?
  intro j
  rw [Array.getElem?_extract, CA_size]
  match j with
  | 0 => rw [if_pos (by omega), CA_at64 c _ (by omega) (by omega)]; rfl
  | 1 => rw [if_pos (by omega), CA_at2]; rfl
  | n + 2 => rw [if_neg (by omega)]; simp
theorem CA_part4 (c : Nat → Int) : (CA c).extract 5 9 = #[.int .i64 (c 5), .int .i64 (c 6), .int .i64 (c 7), .int .i64 (c 8)] := by
  apply Array.ext_getElem?
  intro j
  rw [Array.getElem?_extract, CA_size]
  match j with
  | 0 => rw [if_pos (by omega), CA_at64 c _ (by omega) (by omega)]; rfl
  | 1 => rw [if_pos (by omega), CA_at64 c _ (by omega) (by omega)]; rfl
  | 2 => rw [if_pos (by omega), CA_at64 c _ (by omega) (by omega)]; rfl
  | 3 => rw [if_pos (by omega), CA_at64 c _ (by omega) (by omega)]; rfl
  | n + 4 => rw [if_neg (by omega)]; simp
theorem eq_fold (p : Prop) [Decidable p] (b : Bool) (w : World) : (if p then Result.ok b w else Result.ok false w) = Result.ok (decide p && b) w := by
  by_cases h : p <;> simp [h]
attribute [local go_sem] eq_fold
theorem eq_two (n : Nat) (a b c d : Int) (w : World) : (Op.equalIn (n + 1 + 1) 49 (.agg #[.int .i64 a, .int .u64 b]) (.agg #[.int .i64 c, .int .u64 d])).run Try.prog w = .ok (decide (a = c) && decide (b = d)) w := by
  have u3 := Try.underlying3
  have u4 := Try.underlying40
  rw [run_equalIn_agg w (n + 1) 49 _ _ (by kernel_rfl) (by kernel_rfl)]
  simp only [Program.fieldsOf, Try.underlying49]
  have i3 := Try.isAgg3
  have i4 := Try.isAgg40
  go_simp
theorem eq_four (n : Nat) (a b c d a' b' c' d' : Int) (w : World) : (Op.equalIn (n + 1 + 1) 51 (.agg #[.int .i64 a, .int .i64 b, .int .i64 c, .int .i64 d]) (.agg #[.int .i64 a', .int .i64 b', .int .i64 c', .int .i64 d'])).run Try.prog w =
    .ok (decide (a = a') && decide (b = b') && decide (c = c') && decide (d = d')) w := by
  have u3 := Try.underlying3
  rw [run_equalIn_agg w (n + 1) 51 _ _ (by kernel_rfl) (by kernel_rfl)]
  simp only [Program.fieldsOf, Try.underlying51]
  have i3 := Try.isAgg3
  go_simp
  by_cases h1 : a = a' <;> by_cases h2 : b = b' <;> by_cases h3 : c = c' <;> by_cases h4 : d = d' <;> simp [h1, h2, h3, h4]
theorem eqC_split (c d : Nat → Int) : eqC c d = ((c 0 == d 0) && (decide (c 1 = d 1) && decide (c 2 = d 2)) && (c 3 == d 3) && (c 4 == d 4) && (decide (c 5 = d 5) && decide (c 6 = d 6) && decide (c 7 = d 7) && decide (c 8 = d 8)) && ((List.range 65).all fun i => c (9 + i) == d (9 + i))) := by
  rw [Bool.eq_iff_iff, eqC_iff]
  simp only [Bool.and_eq_true, beq_iff_eq, decide_eq_true_eq, List.all_eq_true, List.mem_range]
  constructor
  · intro h
    exact ⟨⟨⟨⟨⟨h 0 (by omega), h 1 (by omega), h 2 (by omega)⟩, h 3 (by omega)⟩, h 4 (by omega)⟩, ⟨⟨h 5 (by omega), h 6 (by omega)⟩, h 7 (by omega)⟩, h 8 (by omega)⟩, fun i hi => h (9 + i) (by omega)⟩
  · rintro ⟨⟨⟨⟨⟨h0, h1, h2⟩, h3⟩, h4⟩, ⟨⟨h5, h6⟩, h7⟩, h8⟩, h9⟩ i hi
    match i, hi with
    | 0, _ => exact h0
    | 1, _ => exact h1
    | 2, _ => exact h2
    | 3, _ => exact h3
    | 4, _ => exact h4
    | 5, _ => exact h5
    | 6, _ => exact h6
    | 7, _ => exact h7
    | 8, _ => exact h8
    | n + 9, h => have := h9 n (by omega); rwa [Nat.add_comm 9 n] at this
theorem eq_cell (c d : Nat → Int) (w : World) : (binOp .eql 54 (.agg (CA c)) (.agg (CA d))).run Try.prog w = .ok (.bool (eqC c d)) w := by
  have u3 := Try.underlying3
  have i3 := Try.isAgg3
  have p0 : ∀ (f : Nat → Int) (i : Nat) (w : World), i < 74 → i ≠ 2 → (part 3 (CA f) i).run Try.prog w = .ok (.int .i64 (f i)) w := fun f i w hi h2 => by
    simp [part, i3, CA_at64 f i hi h2, go_sem]
  have p2 : ∀ (f : Nat → Int) (w : World), (part 49 (CA f) 1).run Try.prog w = .ok (.agg #[.int .i64 (f 1), .int .u64 (f 2)]) w := fun f w => by
    simp only [part, Sem.run_bind, Try.isAgg49, Try.sizeOf49, Result.andThen_ok, if_true, Sem.run_pure]
    rw [show 1 + 2 = 3 from rfl, CA_part2]
  have p4 : ∀ (f : Nat → Int) (w : World), (part 51 (CA f) 5).run Try.prog w = .ok (.agg #[.int .i64 (f 5), .int .i64 (f 6), .int .i64 (f 7), .int .i64 (f 8)]) w := fun f w => by
    simp only [part, Sem.run_bind, Try.isAgg51, Try.sizeOf51, Result.andThen_ok, if_true, Sem.run_pure]
    rw [show 5 + 4 = 9 from rfl, CA_part4]
  have p9 : ∀ (f : Nat → Int) (w : World), (part 52 (CA f) 9).run Try.prog w = .ok (.agg (HA fun i => f (9 + i))) w := fun f w => by
    simp only [part, Sem.run_bind, Try.isAgg52, Try.sizeOf52, Result.andThen_ok, if_true, Sem.run_pure]
    rw [show 9 + 65 = 74 from rfl, CA_hist]
  rw [run_eql_struct, show (10000 : Nat) = 9999 + 1 from rfl, run_equalIn_agg w 9999 54 _ _ (by kernel_rfl) (by kernel_rfl)]
  simp only [Program.fieldsOf, Try.underlying54]
  simp only [Op.eqFields, Sem.run_bind, Sem.run_ite, p0 _ 0 _ (by omega) (by omega), p0 _ 3 _ (by omega) (by omega), p0 _ 4 _ (by omega) (by omega), p2, p4, p9, Result.andThen_ok, show (9999 : Nat) = 9997 + 1 + 1 from rfl,
    run_equalIn_int _ _ 3 .i64 .i64 _ _ u3, eq_two, eq_four, eq_hist]
  rw [eqC_split]
  generalize (c 0 == d 0) = x0
  generalize (decide (c 1 = d 1) && decide (c 2 = d 2)) = x1
  generalize (c 3 == d 3) = x3
  generalize (c 4 == d 4) = x4
  generalize (decide (c 5 = d 5) && decide (c 6 = d 6) && decide (c 7 = d 7) && decide (c 8 = d 8)) = x5
  generalize ((List.range 65).all fun i => c (9 + i) == d (9 + i)) = x9
  cases x0 <;> cases x1 <;> cases x3 <;> cases x4 <;> cases x5 <;> cases x9 <;> simp
theorem eq_guard (x y : Operand) (xs ys : Array Value) (op : BinOp) (w : World) : (eqGuard op 54 x y (.agg xs) (.agg ys)).run Try.prog w = .ok () w := run_eqGuard_agg w op 54 x y xs ys (by kernel_rfl)
theorem eq_oper {o : Oper} {ρ : Operand → Value} {x y : Operand} {t' : TypeId} {c d : Nat → Int} (ho : o.op = .binOp .eql 54 x y t') (hx : ρ x = .agg (CA c)) (hy : ρ y = .agg (CA d)) (w : World) :
    (execOp ρ o).run Try.prog w = .ok (.value (.bool (eqC c d))) w := by
  unfold execOp
  simp only [ho, hx, hy, Sem.run_bind, eq_guard, eq_cell, Result.andThen_ok, Sem.run_pure]
theorem ld_oper {o : Oper} {ρ : Operand → Value} {x : Operand} {b : Nat} {c : Nat → Int} {t : TypeId} {w : World} (ho : o.op = .load 54 x) (hx : ρ x = .pointer (some ⟨b, 0, none⟩)) (hB : Blk w b (CA c) t) :
    (execOp ρ o).run Try.prog w = .ok (.value (.agg (CA c))) w := by
  unfold execOp
  simp only [ho, hx, Instr.loadAt, Instr.sureAddr, Sem.run_bind, Sem.run_pure, Result.andThen_ok, run_loadVar_row w b t 54 (CA c) (0, 0) _ hB Try.underlying54 rfl (info_cell c)]
theorem q_ld_cell {ops : Array Oper} {w : World} {Q : Act → Prop} {a : Act} {o : Oper} {rest : List Oper} {x : Operand} {b : Nat} {c : Nat → Int} {t : TypeId} (hw : Region.wanted o (yielded ops a.tmps) = true)
    (ho : o.op = .load 54 x) (hx : a.eval x = .pointer (some ⟨b, 0, none⟩)) (hB : Blk w b (CA c) t) (h : wpQuiet Try.prog ops (fun w' => ∃ x : Cls w, w' = x.val) Q rest (a.put o.dst (.agg (CA c)))) :
    wpQuiet Try.prog ops (fun w' => ∃ x : Cls w, w' = x.val) Q (o :: rest) a :=
  quiet_val hw _ (fun w' ⟨x, hx'⟩ => ld_oper ho hx (hx' ▸ hB.keep x.prop)) h
theorem q_eql_cell {ops : Array Oper} {w : World} {Q : Act → Prop} {a : Act} {o : Oper} {rest : List Oper} {x y : Operand} {t' : TypeId} {c d : Nat → Int} (hw : Region.wanted o (yielded ops a.tmps) = true)
    (ho : o.op = .binOp .eql 54 x y t') (hx : a.eval x = .agg (CA c)) (hy : a.eval y = .agg (CA d)) (h : wpQuiet Try.prog ops (fun w' => ∃ x : Cls w, w' = x.val) Q rest (a.put o.dst (.bool (eqC c d)))) :
    wpQuiet Try.prog ops (fun w' => ∃ x : Cls w, w' = x.val) Q (o :: rest) a :=
  quiet_val hw _ (fun w' _ => eq_oper ho hx hy w') h
section
variable {ops : Array Oper} {rest : List Oper} {o : Oper} {a : Act} {w : World} {Q : Exit → Act → World → Prop}
/-- A cell out of the middle of a row. -/
theorem ld_cell_mid (hgd : o.guard = none) {x : Operand} (ho : o.op = .load 54 x) {b q : Nat} {c : Nat → Int} (hr : w.rangeAt b q (CA c).toList) (hx : a.eval x = .pointer (some ⟨b, q, none⟩))
    (h : wpList Try.prog ops Q rest (a.put o.dst (.agg (CA c))) w) : wpList Try.prog ops Q (o :: rest) a w := by
  refine wpList_load_mid hgd _ x ho b q hx _ _ hr Try.underlying54 rfl ?_ (by simpa using h)
  rw [info_cell c]; simp
theorem eql_cell (hgd : o.guard = none) {x y : Operand} {t' : TypeId} {c d : Nat → Int} (ho : o.op = .binOp .eql 54 x y t') (hx : a.eval x = .agg (CA c)) (hy : a.eval y = .agg (CA d))
    (h : wpList Try.prog ops Q rest (a.put o.dst (.bool (eqC c d))) w) : wpList Try.prog ops Q (o :: rest) a w := by
  refine wpList_plain hgd fun K hK => ?_
  unfold Oper.wp
  rw [eq_oper ho hx hy w, Oper.upon_value]
  exact hK _ _ h
end
end Go.Proofs.Ytfnageillhpjpaa
