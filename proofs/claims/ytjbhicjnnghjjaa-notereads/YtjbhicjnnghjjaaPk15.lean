/-
  estuarylaw05.large; '==' of errors; Decode's answers in one form.
  == and != of operations and of entries.
  slices.Equal, of numbers, of operations and of entries.
  slices.Equal of operations and of entries.
-/
import Derived.Test.YtjbhicjnnghjjaaPk13
import Derived.Test.YtjbhicjnnghjjaaPk14
namespace Go.Proofs.Ytjbhicjnnghjjaa
open Go.RowKit Go.Shelf
set_option linter.unusedVariables false

theorem eq20 (w : World) : (binOp .eql 32 (Err 2) .nilIface).run Try.prog w = .ok (.bool false) w := by kernel_rfl
theorem eq22 (w : World) : (binOp .eql 32 (Err 2) (Err 2)).run Try.prog w = .ok (.bool true) w := by kernel_rfl
theorem ne22 (w : World) : (binOp .neq 32 (Err 2) (Err 2)).run Try.prog w = .ok (.bool false) w := by kernel_rfl
theorem ne40 (w : World) : (binOp .neq 32 (Err 4) .nilIface).run Try.prog w = .ok (.bool true) w := by kernel_rfl
theorem eq43 (w : World) : (binOp .eql 32 (Err 4) (Err 3)).run Try.prog w = .ok (.bool false) w := by kernel_rfl
theorem eq44 (w : World) : (binOp .eql 32 (Err 4) (Err 4)).run Try.prog w = .ok (.bool true) w := by kernel_rfl

set_option maxRecDepth 100000 in
theorem large5_any (N : Nt) (vn vo ve : Value) (w : World) (h1 : Is w vn N.ns) (h2 : SR 5 k64 w vo N.os) (h3 : SR 76 ek w ve N.es) (hL : LenN N) :
    Calls Try.prog 10 #[ntV N vn vo ve] w fun e w' => (∃ z : Bool, e = .returned (.bool z) ∧ (z = false → N.ns.length + N.os.length + N.es.length ≤ 500)) ∧ Below w.heap.size w w' := by
  obtain ⟨q1, c1, g1, o1, rfl, -⟩ := h1
  obtain ⟨q2, c2, g2, o2, rfl, -⟩ := h2
  obtain ⟨q3, c3, g3, o3, rfl, -⟩ := h3
  obtain ⟨z1, z2, z3⟩ := hL
  generalize N.ns.length = a at *
  generalize N.os.length = b at *
  generalize N.es.length = c at *
  have x1 : ((a : Int) + (b : Int)) ≤ 9223372036854775807 := by omega
  have x2 : ((a : Int) + (b : Int) + (c : Int)) ≤ 9223372036854775807 := by omega
  have y1 : -9223372036854775808 ≤ ((a : Int) + (b : Int)) := by omega
  have y2 : -9223372036854775808 ≤ ((a : Int) + (b : Int) + (c : Int)) := by omega
  go_enter Try.func10, Try.ntmps10
  go_wp2_with fail
  go_ret
  refine ⟨⟨_, rfl, fun h => ?_⟩, ab_alloc (Below.refl _ _) _⟩
  simp at h
  omega

/-- Decode's answers in one form. -/
theorem dc_one {W : World} {base : Nat} {b : List Nat} {e : Ending} (h : DcP W base b e) : ∃ (er : Value) (k f t : Int) (q1 : Option Addr) (n1 c1 : Nat) (q2 : Option Addr) (n2 c2 : Nat) (q3 : Option Addr) (n3 c3 : Nat), e = .returned (.tuple #[.agg #[.int .i64 k, .int .i64 f, .int .i64 t, .slice q1 n1 c1, .slice q2 n2 c2, .slice q3 n3 c3], er]) ∧
    (er = Err 3 ∨ er = Err 4 ∨ (er = .nilIface ∧ ∃ N : Nt, k = N.k ∧ f = N.f ∧ t = N.t ∧ WN N ∧ GoodN N ∧ bysN N = b ∧ Io W base (.slice q1 n1 c1) N.ns ∧ SO 73 5 k64 W base (.slice q2 n2 c2) N.os ∧ SO 82 76 ek W base (.slice q3 n3 c3) N.es)) := by
  rcases h with ⟨_, rfl⟩ | ⟨_, _, rfl⟩ | ⟨_, N, vn, vo, ve, hW, hg, hb, rfl, On, Oo, Oe⟩
  · exact ⟨Err 3, _, _, _, _, _, _, _, _, _, _, _, _, rfl, .inl rfl⟩
  · exact ⟨Err 4, _, _, _, _, _, _, _, _, _, _, _, _, rfl, .inr (.inl rfl)⟩
  · obtain ⟨q1, c1, rfl⟩ := On.form
    obtain ⟨q2, c2, rfl⟩ := Oo.form (by omega)
    obtain ⟨q3, c3, rfl⟩ := Oe.form (by omega)
    exact ⟨.nilIface, _, _, _, _, _, _, _, _, _, _, _, _, rfl, .inr (.inr ⟨rfl, N, rfl, rfl, rfl, hW, hg, hb, On, Oo, Oe⟩)⟩
end Go.Proofs.Ytjbhicjnnghjjaa
namespace Go.Proofs.Ytjbhicjnnghjjaa
open Go.RowKit Go.Shelf
set_option linter.unusedVariables false

/-- The same in the first k numbers. -/
def eqA (k : Nat) (c d : Nat → Int) : Bool := (List.range k).all fun i => decide (c i = d i)
theorem eqA_iff (k : Nat) (c d : Nat → Int) : eqA k c d = true ↔ ∀ i, i < k → c i = d i := by simp [eqA]
attribute [local go_sem] eq_fold
theorem eq_plc (n : Nat) (a b c d : Int) (w : World) : (Op.equalIn (n + 1 + 1) 53 (.agg #[.int .i64 a, .int .i64 b]) (.agg #[.int .i64 c, .int .i64 d])).run Try.prog w = .ok (decide (a = c) && decide (b = d)) w := by
  have u3 := Try.underlying3
  rw [run_equalIn_agg w (n + 1) 53 _ _ (by kernel_rfl) (by kernel_rfl)]
  simp only [Program.fieldsOf, Try.underlying53]
  have i3 := Try.isAgg3
  go_simp
theorem eq_op5 (n : Nat) (a b : Nat → Int) (w : World) : (Op.equalIn (n + 1 + 1) 73 (.agg (OA a)) (.agg (OA b))).run Try.prog w = .ok (eqA 5 a b) w := by
  have u3 := Try.underlying3
  have e : ∀ x, OA x = #[.int .i64 (x 0), .int .i64 (x 1), .int .i64 (x 2), .int .i64 (x 3), .int .i64 (x 4)] := fun x => rfl
  rw [e, e, run_equalIn_agg w (n + 1) 73 _ _ (by kernel_rfl) (by kernel_rfl)]
  simp only [Program.fieldsOf, Try.underlying73]
  have i3 := Try.isAgg3
  go_simp
  have hs : eqA 5 a b = (decide (a 0 = b 0) && (decide (a 1 = b 1) && (decide (a 2 = b 2) && (decide (a 3 = b 3) && decide (a 4 = b 4))))) := by simp [eqA, List.range_succ]
  rw [hs]
theorem eq_cellN (n : Nat) (c d : Nat → Int) (w : World) : (Op.equalIn (n + 1 + 1 + 1) 80 (.agg (CA c)) (.agg (CA d))).run Try.prog w = .ok (eqC c d) w := by
  have u3 := Try.underlying3
  have i3 := Try.isAgg3
  have p0 : ∀ (f : Nat → Int) (i : Nat) (w : World), i < 74 → i ≠ 2 → (part 3 (CA f) i).run Try.prog w = .ok (.int .i64 (f i)) w := fun f i w hi h2 => by
    simp [part, i3, CA_at64 f i hi h2, go_sem]
  have p2 : ∀ (f : Nat → Int) (w : World), (part 75 (CA f) 1).run Try.prog w = .ok (.agg #[.int .i64 (f 1), .int .u64 (f 2)]) w := fun f w => by
    simp only [part, Sem.run_bind, Try.isAgg75, Try.sizeOf75, Result.andThen_ok, if_true, Sem.run_pure]
    rw [show 1 + 2 = 3 from rfl, CA_part2]
  have p4 : ∀ (f : Nat → Int) (w : World), (part 77 (CA f) 5).run Try.prog w = .ok (.agg #[.int .i64 (f 5), .int .i64 (f 6), .int .i64 (f 7), .int .i64 (f 8)]) w := fun f w => by
    simp only [part, Sem.run_bind, Try.isAgg77, Try.sizeOf77, Result.andThen_ok, if_true, Sem.run_pure]
    rw [show 5 + 4 = 9 from rfl, CA_part4]
  have p9 : ∀ (f : Nat → Int) (w : World), (part 78 (CA f) 9).run Try.prog w = .ok (.agg (HA fun i => f (9 + i))) w := fun f w => by
    simp only [part, Sem.run_bind, Try.isAgg78, Try.sizeOf78, Result.andThen_ok, if_true, Sem.run_pure]
    rw [show 9 + 65 = 74 from rfl, CA_hist]
  rw [run_equalIn_agg w (n + 1 + 1) 80 _ _ (by kernel_rfl) (by kernel_rfl)]
  simp only [Program.fieldsOf, Try.underlying80]
  simp only [Op.eqFields, Sem.run_bind, Sem.run_ite, p0 _ 0 _ (by omega) (by omega), p0 _ 3 _ (by omega) (by omega), p0 _ 4 _ (by omega) (by omega), p2, p4, p9, Result.andThen_ok,
    run_equalIn_int _ _ 3 .i64 .i64 _ _ u3, eq_two, eq_four, eq_hist]
  rw [eqC_split]
  generalize (c 0 == d 0) = x0
  generalize (decide (c 1 = d 1) && decide (c 2 = d 2)) = x1
  generalize (c 3 == d 3) = x3
  generalize (c 4 == d 4) = x4
  generalize (decide (c 5 = d 5) && decide (c 6 = d 6) && decide (c 7 = d 7) && decide (c 8 = d 8)) = x5
  generalize ((List.range 65).all fun i => c (9 + i) == d (9 + i)) = x9
  cases x0 <;> cases x1 <;> cases x3 <;> cases x4 <;> cases x5 <;> cases x9 <;> simp
theorem EA_cell (e : Nat → Int) : (EA e).extract 2 76 = CA (cE e) := by
  apply Array.ext'
  apply List.ext_getElem?
  intro i
  by_cases hi : i < 74
  · have e1 : (CA (cE e)).toList[i]? = some (.int (ck i) (cE e i)) := by simp [CA, hi]
    have e2 : ek (2 + i) = ck i := by
      unfold ek ck
      by_cases h2 : i = 2
      · subst h2; rfl
      · rw [if_neg (by omega), if_neg h2]
    rw [e1, Array.toList_extract, List.getElem?_take_of_lt (by omega), List.getElem?_drop, AG_at 76 ek e (2 + i) (by omega), e2]
    rfl
  · rw [List.getElem?_eq_none (by simp [AG_size]; omega), List.getElem?_eq_none (by simp [CA]; omega)]
theorem eqA_split (a b : Nat → Int) : eqA 76 a b = ((decide (a 0 = b 0) && decide (a 1 = b 1)) && eqC (cE a) (cE b)) := by
  rw [Bool.eq_iff_iff, eqA_iff]
  simp only [Bool.and_eq_true, decide_eq_true_eq, eqC_iff]
  constructor
  · intro h
    exact ⟨⟨h 0 (by omega), h 1 (by omega)⟩, fun i hi => h (2 + i) (by omega)⟩
  · rintro ⟨⟨h0, h1⟩, h2⟩ i hi
    match i, hi with
    | 0, _ => exact h0
    | 1, _ => exact h1
    | n + 2, h => have := h2 n (by omega); unfold cE at this; rwa [Nat.add_comm 2 n] at this
theorem eq_ent (n : Nat) (a b : Nat → Int) (w : World) : (Op.equalIn (n + 1 + 1 + 1 + 1) 82 (.agg (EA a)) (.agg (EA b))).run Try.prog w = .ok (eqA 76 a b) w := by
  have p0 : ∀ (f : Nat → Int) (w : World), (part 53 (EA f) 0).run Try.prog w = .ok (.agg #[.int .i64 (f 0), .int .i64 (f 1)]) w := fun f w => by
    simp only [part, Sem.run_bind, Try.isAgg53, Try.sizeOf53, Result.andThen_ok, if_true, Sem.run_pure]
    congr 2
  have p2 : ∀ (f : Nat → Int) (w : World), (part 80 (EA f) 2).run Try.prog w = .ok (.agg (CA (cE f))) w := fun f w => by
    simp only [part, Sem.run_bind, Try.isAgg80, Try.sizeOf80, Result.andThen_ok, if_true, Sem.run_pure]
    rw [show 2 + 74 = 76 from rfl, EA_cell]
  rw [run_equalIn_agg w (n + 1 + 1 + 1) 82 _ _ (by kernel_rfl) (by kernel_rfl)]
  simp only [Program.fieldsOf, Try.underlying82]
  simp only [Op.eqFields, Sem.run_bind, Sem.run_ite, p0, p2, Result.andThen_ok, eq_plc, eq_cellN]
  rw [eqA_split]
  generalize (decide (a 0 = b 0) && decide (a 1 = b 1)) = x0
  generalize eqC (cE a) (cE b) = x1
  cases x0 <;> cases x1 <;> simp
theorem neq_op5 (a b : Nat → Int) (w : World) : (binOp .neq 73 (.agg (OA a)) (.agg (OA b))).run Try.prog w = .ok (.bool (!eqA 5 a b)) w := by
  rw [run_neq_struct, show (10000 : Nat) = 9998 + 1 + 1 from rfl, eq_op5]
  simp
theorem neq_ent (a b : Nat → Int) (w : World) : (binOp .neq 82 (.agg (EA a)) (.agg (EA b))).run Try.prog w = .ok (.bool (!eqA 76 a b)) w := by
  rw [run_neq_struct, show (10000 : Nat) = 9996 + 1 + 1 + 1 + 1 from rfl, eq_ent]
  simp
end Go.Proofs.Ytjbhicjnnghjjaa
namespace Go.Proofs.Ytjbhicjnnghjjaa
open Go.RowKit Go.Shelf
set_option linter.unusedVariables false

theorem take_eq_next {α : Type} {l m : List α} {k : Nat} {x y : α} (h : l.take k = m.take k) (hx : l[k]? = some x) (hy : m[k]? = some y) (e : x = y) : l.take (k + 1) = m.take (k + 1) := by
  rw [List.take_add_one, List.take_add_one, h, hx, hy, e]
set_option maxHeartbeats 1000000 in
set_option maxRecDepth 100000 in
theorem equal_ints (v1 v2 : Value) (l m : List Int) (w : World) (h1 : Is w v1 l) (h2 : Is w v2 m) :
    Calls Try.prog 43 #[v1, v2] w fun r w' => BIff r (l = m) ∧ Below w.heap.size w w' := by
  obtain ⟨q1, c1, g1, o1, rfl, hc1, hm1, hp1, hg1, hr1⟩ := h1
  obtain ⟨q2, c2, g2, o2, rfl, hc2, hm2, hp2, hg2, hr2⟩ := h2
  by_cases hl : l.length = m.length
  · generalize hn : l.length = n at *
    generalize hn2 : m.length = n2 at *
    subst hl
    have e0 : ((n : Int) != (n : Int)) = false := by simp
    go_enter Try.func43, Try.ntmps43
    go_wp2_with fail
    go_loopw [13] (fun i wr => ∃ k : Nat, k ≤ n ∧ i = .int .i64 (k : Int) ∧ l.take k = m.take k ∧ Below w.heap.size w wr) (fun i _ => n - (intOf i).toNat)
    case atStart => exact ⟨0, by omega, rfl, by simp, Below.refl _ _⟩
    case round =>
      obtain ⟨k, hk, rfl, ht, hb⟩ := hrel
      have HT : Hid (l.take k = m.take k) := ht
      clear ht
      by_cases c : k = n
      · subst c
        have HE : Hid (BIff (.returned (.bool true)) (l = m)) := ⟨true, rfl, by
          have := HT.out
          rw [List.take_of_length_le (by omega), List.take_of_length_le (by omega)] at this
          simp [this]⟩
        go_wp2_with fail
        go_ret
        exact ⟨HE.out, hb⟩
      · obtain ⟨x, hx⟩ : ∃ x, l[k]? = some x := ⟨l[k], List.getElem?_eq_getElem (by omega)⟩
        obtain ⟨y, hy⟩ : ∃ y, m[k]? = some y := ⟨m[k], List.getElem?_eq_getElem (by omega)⟩
        obtain rfl := hp1 (by omega)
        obtain rfl := hp2 (by omega)
        have d1 := (hb.cell (p := ⟨g1, o1 + k, none⟩) (hg1 (by omega))).trans (hr1 k x hx)
        have d2 := (hb.cell (p := ⟨g2, o2 + k, none⟩) (hg2 (by omega))).trans (hr2 k y hy)
        have hki : (k : Int) < (n : Int) := by omega
        have hkn : k < n := by omega
        by_cases e : x = y
        · have HN : Hid (l.take (k + 1) = m.take (k + 1)) := take_eq_next HT.out hx hy e
          have e1 : (x != y) = false := by simp [e]
          clear hr1 hr2 hp1 hp2 hg1 hg2 hx hy hn hn2 e
          go_upto_region 6 with fail
          go_quiet (fail)
          go_wp2_with fail
          exact ⟨⟨k + 1, by omega, rfl, HN.out, ab_drewN hb _⟩, by simp only [intOf]; omega⟩
        · have HE : Hid (BIff (.returned (.bool false)) (l = m)) := ⟨false, rfl, ⟨fun h => by simp at h, fun h => by rw [h, hy] at hx; cases hx; exact absurd rfl e⟩⟩
          have e1 : (x != y) = true := by simp [e]
          clear hr1 hr2 hp1 hp2 hg1 hg2 hx hy hn hn2 e
          go_upto_region 6 with fail
          go_quiet (fail)
          go_wp2_with fail
          go_ret
          exact ⟨HE.out, ab_drewN hb _⟩
  · have HE : Hid (BIff (.returned (.bool false)) (l = m)) := ⟨false, rfl, ⟨fun h => by simp at h, fun h => absurd (by rw [h]) hl⟩⟩
    have e0 : ((l.length : Int) != (m.length : Int)) = true := by simp; omega
    clear hl hr1 hr2 hp1 hp2 hg1 hg2
    generalize l.length = n at *
    generalize m.length = n2 at *
    go_enter Try.func43, Try.ntmps43
    go_wp2_with fail
    go_ret
    exact ⟨HE.out, Below.refl _ _⟩
end Go.Proofs.Ytjbhicjnnghjjaa
namespace Go.Proofs.Ytjbhicjnnghjjaa
open Go.RowKit Go.Shelf
set_option linter.unusedVariables false

theorem range_keep {W W' : World} {g q : Nat} {cs : List Value} (h : W.rangeAt g q cs) (hg : g < W.heap.size) (hb : Below W.heap.size W W') : W'.rangeAt g q cs := fun j v hv => (hb.cell (p := ⟨g, q + j, none⟩) hg).trans (h j v hv)
theorem eqL_next {k : Nat} {l m : List (Nat → Int)} {j : Nat} {x y : Nat → Int} (h : EqL k (l.take j) (m.take j)) (hx : l[j]? = some x) (hy : m[j]? = some y) (e : ∀ i, i < k → x i = y i) : EqL k (l.take (j + 1)) (m.take (j + 1)) := by
  have l1 := (List.getElem?_eq_some_iff.1 hx).1
  have l2 := (List.getElem?_eq_some_iff.1 hy).1
  refine ⟨by rw [List.length_take, List.length_take]; omega, fun i a b ha hb => ?_⟩
  have hi : i < j + 1 := by have := (List.getElem?_eq_some_iff.1 ha).1; rw [List.length_take] at this; omega
  rw [List.getElem?_take_of_lt hi] at ha hb
  by_cases c : i = j
  · subst c
    rw [hx] at ha
    rw [hy] at hb
    cases ha; cases hb
    exact e
  · exact h.2 i a b (by rw [List.getElem?_take_of_lt (by omega)]; exact ha) (by rw [List.getElem?_take_of_lt (by omega)]; exact hb)

theorem ld_ops {o : Oper} {ρ : Operand → Value} {x : Operand} {b q : Nat} {c : Nat → Int} {w : World} (ho : o.op = .load 73 x) (hx : ρ x = .pointer (some ⟨b, q, none⟩)) (hr : w.rangeAt b q (AG 5 k64 c).toList) :
    (execOp ρ o).run Try.prog w = .ok (.value (.agg (AG 5 k64 c))) w := by
  unfold execOp
  have h : (Try.prog.info? 73).map (·.size) = some (AG 5 k64 c).toList.length := by rw [AG_len]; kernel_rfl
  simp only [ho, hx, Instr.loadAt, Instr.sureAddr, Sem.run_bind, Sem.run_pure, Result.andThen_ok, run_loadVar_mid w b q 73 (AG 5 k64 c).toList _ hr Try.underlying73 rfl h]
theorem neqo_ops {o : Oper} {ρ : Operand → Value} {x y : Operand} {t' : TypeId} {c d : Nat → Int} (ho : o.op = .binOp .neq 73 x y t') (hx : ρ x = .agg (AG 5 k64 c)) (hy : ρ y = .agg (AG 5 k64 d)) (w : World) :
    (execOp ρ o).run Try.prog w = .ok (.value (.bool (!eqA 5 c d))) w := by
  unfold execOp
  have eg : ∀ (xs ys : Array Value), (eqGuard .neq 73 x y (.agg xs) (.agg ys)).run Try.prog w = .ok () w := fun xs ys => run_eqGuard_agg w .neq 73 x y xs ys (by kernel_rfl)
  simp only [ho, hx, hy, Sem.run_bind, eg, neq_op5, Result.andThen_ok, Sem.run_pure]
set_option maxHeartbeats 2000000 in
set_option maxRecDepth 100000 in
theorem equal_ops (v1 v2 : Value) (l m : List (Nat → Int)) (w : World) (h1 : SR 5 k64 w v1 l) (h2 : SR 5 k64 w v2 m) :
    Calls Try.prog 44 #[v1, v2] w fun r w' => BIff r (EqL 5 l m) ∧ Below w.heap.size w w' := by
  obtain ⟨q1, c1, g1, o1, rfl, hc1, hm1, hp1, hg1, hr1⟩ := h1
  obtain ⟨q2, c2, g2, o2, rfl, hc2, hm2, hp2, hg2, hr2⟩ := h2
  by_cases hl : l.length = m.length
  · generalize hn : l.length = n at *
    generalize hn2 : m.length = n2 at *
    subst hl
    have e0 : ((n : Int) != (n : Int)) = false := by simp
    go_enter Try.func44, Try.ntmps44
    go_wp2_with fail
    go_loopw [13] (fun i wr => ∃ k : Nat, k ≤ n ∧ i = .int .i64 (k : Int) ∧ EqL 5 (l.take k) (m.take k) ∧ Below w.heap.size w wr) (fun i _ => n - (intOf i).toNat)
    case atStart => exact ⟨0, by omega, rfl, by simpa using EqL.refl _ _, Below.refl _ _⟩
    case round =>
      obtain ⟨k, hk, rfl, ht, hb⟩ := hrel
      have HT : Hid (EqL 5 (l.take k) (m.take k)) := ht
      clear ht
      by_cases c : k = n
      · subst c
        have HE : Hid (BIff (.returned (.bool true)) (EqL 5 l m)) := ⟨true, rfl, by
          have := HT.out
          rw [List.take_of_length_le (by omega), List.take_of_length_le (by omega)] at this
          simp [this]⟩
        go_wp2_with fail
        go_ret
        exact ⟨HE.out, hb⟩
      · obtain ⟨x, hx⟩ : ∃ x, l[k]? = some x := ⟨l[k], List.getElem?_eq_getElem (by omega)⟩
        obtain ⟨y, hy⟩ : ∃ y, m[k]? = some y := ⟨m[k], List.getElem?_eq_getElem (by omega)⟩
        obtain rfl := hp1 (by omega)
        obtain rfl := hp2 (by omega)
        have gw1 : g1 < w.heap.size := hg1 (by omega)
        have gw2 : g2 < w.heap.size := hg2 (by omega)
        have R1 : Hid (∀ w', Below wr.heap.size wr w' → w'.rangeAt g1 (o1 + k * 5) (AG 5 k64 x).toList) := fun w' hb' => range_keep (hr1 k x hx) gw1 (ab_trans hb hb')
        have R2 : Hid (∀ w', Below wr.heap.size wr w' → w'.rangeAt g2 (o2 + k * 5) (AG 5 k64 y).toList) := fun w' hb' => range_keep (hr2 k y hy) gw2 (ab_trans hb hb')
        have hki : (k : Int) < (n : Int) := by omega
        have hkn : k < n := by omega
        have HN : Hid ((∀ i, i < 5 → x i = y i) → EqL 5 (l.take (k + 1)) (m.take (k + 1))) := fun e => eqL_next HT.out hx hy e
        have HE : Hid ((¬ ∀ i, i < 5 → x i = y i) → BIff (.returned (.bool false)) (EqL 5 l m)) := fun e => ⟨false, rfl, ⟨fun h => by simp at h, fun h => absurd (h.2 k x y hx hy) e⟩⟩
        clear hr1 hr2 hp1 hp2 hg1 hg2 hx hy hn hn2 gw1 gw2
        go_upto_region 6 with fail
        refine wp_region_below (by kernel_rfl) (by kernel_rfl) ?_
        have HZ := cls_some wr
        go_big_quiet_step (fail)
        go_big_quiet_step (fail)
        go_big_quiet_step (fail)
        refine quiet_val rfl _ (fun w' hw' => by obtain ⟨z, hz⟩ := hw'; exact ld_ops rfl rfl (hz ▸ R1.out _ z.prop)) ?_
        simp only [Act.put, List.setIfInBounds_toArray, List.set_cons_succ, List.set_cons_zero]
        go_big_quiet_step (fail)
        go_big_quiet_step (fail)
        go_big_quiet_step (fail)
        refine quiet_val rfl _ (fun w' hw' => by obtain ⟨z, hz⟩ := hw'; exact ld_ops rfl rfl (hz ▸ R2.out _ z.prop)) ?_
        simp only [Act.put, List.setIfInBounds_toArray, List.set_cons_succ, List.set_cons_zero]
        refine quiet_val rfl _ (fun w' _ => neqo_ops rfl rfl rfl w') ?_
        simp only [Act.put, List.setIfInBounds_toArray, List.set_cons_succ, List.set_cons_zero]
        refine wpQuiet_nil ?_
        rintro w7 ⟨⟨W7, b7⟩, e7⟩
        dsimp only at e7
        subst e7
        have hb7 := ab_trans hb b7
        cases he : eqA 5 x y with
        | true =>
          have HN' := HN.out ((eqA_iff _ _ _).1 he)
          have HN2 : Hid (EqL 5 (l.take (k + 1)) (m.take (k + 1))) := HN'
          clear HN' HN HE
          go_wp2_with fail
          exact ⟨⟨k + 1, by omega, rfl, HN2.out, hb7⟩, by simp only [intOf]; omega⟩
        | false =>
          have HE2 : Hid (BIff (.returned (.bool false)) (EqL 5 l m)) := HE.out (fun h => by rw [(eqA_iff _ _ _).2 h] at he; cases he)
          clear HN HE
          go_wp2_with fail
          go_ret
          exact ⟨HE2.out, hb7⟩
  · have HE : Hid (BIff (.returned (.bool false)) (EqL 5 l m)) := ⟨false, rfl, ⟨fun h => by simp at h, fun h => absurd h.1 hl⟩⟩
    have e0 : ((l.length : Int) != (m.length : Int)) = true := by simp; omega
    clear hl hr1 hr2 hp1 hp2 hg1 hg2
    generalize l.length = n at *
    generalize m.length = n2 at *
    go_enter Try.func44, Try.ntmps44
    go_wp2_with fail
    go_ret
    exact ⟨HE.out, Below.refl _ _⟩

theorem ld_ents {o : Oper} {ρ : Operand → Value} {x : Operand} {b q : Nat} {c : Nat → Int} {w : World} (ho : o.op = .load 82 x) (hx : ρ x = .pointer (some ⟨b, q, none⟩)) (hr : w.rangeAt b q (AG 76 ek c).toList) :
    (execOp ρ o).run Try.prog w = .ok (.value (.agg (AG 76 ek c))) w := by
  unfold execOp
  have h : (Try.prog.info? 82).map (·.size) = some (AG 76 ek c).toList.length := by rw [AG_len]; kernel_rfl
  simp only [ho, hx, Instr.loadAt, Instr.sureAddr, Sem.run_bind, Sem.run_pure, Result.andThen_ok, run_loadVar_mid w b q 82 (AG 76 ek c).toList _ hr Try.underlying82 rfl h]
theorem neqo_ents {o : Oper} {ρ : Operand → Value} {x y : Operand} {t' : TypeId} {c d : Nat → Int} (ho : o.op = .binOp .neq 82 x y t') (hx : ρ x = .agg (AG 76 ek c)) (hy : ρ y = .agg (AG 76 ek d)) (w : World) :
    (execOp ρ o).run Try.prog w = .ok (.value (.bool (!eqA 76 c d))) w := by
  unfold execOp
  have eg : ∀ (xs ys : Array Value), (eqGuard .neq 82 x y (.agg xs) (.agg ys)).run Try.prog w = .ok () w := fun xs ys => run_eqGuard_agg w .neq 82 x y xs ys (by kernel_rfl)
  simp only [ho, hx, hy, Sem.run_bind, eg, neq_ent, Result.andThen_ok, Sem.run_pure]
set_option maxHeartbeats 2000000 in
set_option maxRecDepth 100000 in
theorem equal_ents (v1 v2 : Value) (l m : List (Nat → Int)) (w : World) (h1 : SR 76 ek w v1 l) (h2 : SR 76 ek w v2 m) :
    Calls Try.prog 45 #[v1, v2] w fun r w' => BIff r (EqL 76 l m) ∧ Below w.heap.size w w' := by
  obtain ⟨q1, c1, g1, o1, rfl, hc1, hm1, hp1, hg1, hr1⟩ := h1
  obtain ⟨q2, c2, g2, o2, rfl, hc2, hm2, hp2, hg2, hr2⟩ := h2
  by_cases hl : l.length = m.length
  · generalize hn : l.length = n at *
    generalize hn2 : m.length = n2 at *
    subst hl
    have e0 : ((n : Int) != (n : Int)) = false := by simp
    go_enter Try.func45, Try.ntmps45
    go_wp2_with fail
    go_loopw [13] (fun i wr => ∃ k : Nat, k ≤ n ∧ i = .int .i64 (k : Int) ∧ EqL 76 (l.take k) (m.take k) ∧ Below w.heap.size w wr) (fun i _ => n - (intOf i).toNat)
    case atStart => exact ⟨0, by omega, rfl, by simpa using EqL.refl _ _, Below.refl _ _⟩
    case round =>
      obtain ⟨k, hk, rfl, ht, hb⟩ := hrel
      have HT : Hid (EqL 76 (l.take k) (m.take k)) := ht
      clear ht
      by_cases c : k = n
      · subst c
        have HE : Hid (BIff (.returned (.bool true)) (EqL 76 l m)) := ⟨true, rfl, by
          have := HT.out
          rw [List.take_of_length_le (by omega), List.take_of_length_le (by omega)] at this
          simp [this]⟩
        go_wp2_with fail
        go_ret
        exact ⟨HE.out, hb⟩
      · obtain ⟨x, hx⟩ : ∃ x, l[k]? = some x := ⟨l[k], List.getElem?_eq_getElem (by omega)⟩
        obtain ⟨y, hy⟩ : ∃ y, m[k]? = some y := ⟨m[k], List.getElem?_eq_getElem (by omega)⟩
        obtain rfl := hp1 (by omega)
        obtain rfl := hp2 (by omega)
        have gw1 : g1 < w.heap.size := hg1 (by omega)
        have gw2 : g2 < w.heap.size := hg2 (by omega)
        have R1 : Hid (∀ w', Below wr.heap.size wr w' → w'.rangeAt g1 (o1 + k * 76) (AG 76 ek x).toList) := fun w' hb' => range_keep (hr1 k x hx) gw1 (ab_trans hb hb')
        have R2 : Hid (∀ w', Below wr.heap.size wr w' → w'.rangeAt g2 (o2 + k * 76) (AG 76 ek y).toList) := fun w' hb' => range_keep (hr2 k y hy) gw2 (ab_trans hb hb')
        have hki : (k : Int) < (n : Int) := by omega
        have hkn : k < n := by omega
        have HN : Hid ((∀ i, i < 76 → x i = y i) → EqL 76 (l.take (k + 1)) (m.take (k + 1))) := fun e => eqL_next HT.out hx hy e
        have HE : Hid ((¬ ∀ i, i < 76 → x i = y i) → BIff (.returned (.bool false)) (EqL 76 l m)) := fun e => ⟨false, rfl, ⟨fun h => by simp at h, fun h => absurd (h.2 k x y hx hy) e⟩⟩
        clear hr1 hr2 hp1 hp2 hg1 hg2 hx hy hn hn2 gw1 gw2
        go_upto_region 6 with fail
        refine wp_region_below (by kernel_rfl) (by kernel_rfl) ?_
        have HZ := cls_some wr
        go_big_quiet_step (fail)
        go_big_quiet_step (fail)
        go_big_quiet_step (fail)
        refine quiet_val rfl _ (fun w' hw' => by obtain ⟨z, hz⟩ := hw'; exact ld_ents rfl rfl (hz ▸ R1.out _ z.prop)) ?_
        simp only [Act.put, List.setIfInBounds_toArray, List.set_cons_succ, List.set_cons_zero]
        go_big_quiet_step (fail)
        go_big_quiet_step (fail)
        go_big_quiet_step (fail)
        refine quiet_val rfl _ (fun w' hw' => by obtain ⟨z, hz⟩ := hw'; exact ld_ents rfl rfl (hz ▸ R2.out _ z.prop)) ?_
        simp only [Act.put, List.setIfInBounds_toArray, List.set_cons_succ, List.set_cons_zero]
        refine quiet_val rfl _ (fun w' _ => neqo_ents rfl rfl rfl w') ?_
        simp only [Act.put, List.setIfInBounds_toArray, List.set_cons_succ, List.set_cons_zero]
        refine wpQuiet_nil ?_
        rintro w7 ⟨⟨W7, b7⟩, e7⟩
        dsimp only at e7
        subst e7
        have hb7 := ab_trans hb b7
        cases he : eqA 76 x y with
        | true =>
          have HN' := HN.out ((eqA_iff _ _ _).1 he)
          have HN2 : Hid (EqL 76 (l.take (k + 1)) (m.take (k + 1))) := HN'
          clear HN' HN HE
          go_wp2_with fail
          exact ⟨⟨k + 1, by omega, rfl, HN2.out, hb7⟩, by simp only [intOf]; omega⟩
        | false =>
          have HE2 : Hid (BIff (.returned (.bool false)) (EqL 76 l m)) := HE.out (fun h => by rw [(eqA_iff _ _ _).2 h] at he; cases he)
          clear HN HE
          go_wp2_with fail
          go_ret
          exact ⟨HE2.out, hb7⟩
  · have HE : Hid (BIff (.returned (.bool false)) (EqL 76 l m)) := ⟨false, rfl, ⟨fun h => by simp at h, fun h => absurd h.1 hl⟩⟩
    have e0 : ((l.length : Int) != (m.length : Int)) = true := by simp; omega
    clear hl hr1 hr2 hp1 hp2 hg1 hg2
    generalize l.length = n at *
    generalize m.length = n2 at *
    go_enter Try.func45, Try.ntmps45
    go_wp2_with fail
    go_ret
    exact ⟨HE.out, Below.refl _ _⟩
end Go.Proofs.Ytjbhicjnnghjjaa
