/-
  The document's Same.
  The answers of Prepare and Accept one by one; the chapter's example: estuarylaw09.alive.
  Keeper: the small functions; errors.Is of the errors of this program.
-/
import Derived.Test.YtlhamckpgijjmaaPk09
import Derived.Lib.SmallJoins
import Derived.LaidEql
import Derived.Stop.Asserts
namespace Go.Proofs.Ytlhamckpgijjmaa
open Go.RowKit
set_option linter.unusedVariables false

/-- The same registers. -/
def smR (r s : Rg) : Bool := eqB r.p s.p && (eqB r.a s.a && decide (r.l = s.l))
theorem smR_iff {r s : Rg} : smR r s = true ↔ r = s := by
  unfold smR
  rw [Bool.and_eq_true, Bool.and_eq_true, eqB_iff, eqB_iff, decide_eq_true_iff]
  cases r; cases s
  simp
theorem smR_self (r : Rg) : smR r r = true := smR_iff.2 rfl
theorem sm_1 {r s : Rg} (h : eqB r.p s.p = false) : smR r s = false := by unfold smR; rw [h]; rfl
theorem sm_2 {r s : Rg} (h : eqB r.a s.a = false) : smR r s = false := by unfold smR; rw [h]; simp
theorem sm_3 {r s : Rg} (h : r.l ≠ s.l) : smR r s = false := by unfold smR; rw [decide_eq_false h]; simp
section
attribute [local go_sem] ok_foldB
set_option maxHeartbeats 1000000 in
theorem same9_any (r s : Rg) (v u : Value) (w : World) (hv : Is w v r.l) (hu : Is w u s.l) (hl : r.l.length ≤ 100000) :
    Calls Try.prog 15 #[rV r.p r.a v, rV s.p s.a u] w fun e w' => e = .returned (.bool (smR r s)) ∧ Below w.heap.size w w' := by
  obtain ⟨q, c, g, off, rfl, hc1, hc2, hp, hg, hr⟩ := hv
  obtain ⟨q2, k, g2, off2, rfl, hk1, hk2, hp2, hg2, hr2⟩ := hu
  obtain ⟨n, hn⟩ : ∃ n, r.l.length = n := ⟨_, rfl⟩
  obtain ⟨m, hm⟩ : ∃ m, s.l.length = m := ⟨_, rfl⟩
  rw [hn] at hp hg hc1 hl ⊢
  rw [hm] at hp2 hg2 hk1 ⊢
  have e1 := eq3 r.p s.p
  have e2 := eq3 r.a s.a
  go_enter Try.func15, Try.ntmps15
  go_upto_region 1 with fail
  obtain ⟨A, hAe, hB0, hB1, hw⟩ := blk2 w (rC r.p r.a (.slice q n c)) (rC s.p s.a (.slice q2 m k)) 40 40
  rw [hAe]
  obtain ⟨c0, c1, c2, c3, c4, c5, c6⟩ := cells7 hB0
  obtain ⟨d0, d1, d2, d3, d4, d5, d6⟩ := cells7 hB1
  have hbv := Below.refl A.heap.size A
  clear hAe
  cases h1 : eqB r.p s.p
  · rw [h1] at e1
    have HF : Hid (smR r s = false) := sm_1 h1
    clear hr hr2 hp hp2 hg hg2
    go_wp2_with fail
    go_ret
    exact ⟨ret_bool HF.out.symm, hw⟩
  · rw [h1] at e1
    cases h2 : eqB r.a s.a
    · rw [h2] at e2
      have HF : Hid (smR r s = false) := sm_2 h2
      clear hr hr2 hp hp2 hg hg2
      go_wp2_with fail
      go_ret
      exact ⟨ret_bool HF.out.symm, hw⟩
    · rw [h2] at e2
      by_cases h3 : n = m
      · subst h3
        have HS : Hid (smR r s = decide (r.l = s.l)) := by show _ = _; unfold smR; rw [h1, h2]; rfl
        go_upto_region 3 with fail
        clear c0 c1 c2 c3 c4 c5 d0 d1 d2 d3 d4 d5 e1 e2 h1 h2
        have hr1 := irow_keep hr (by rw [hn]; exact hg) hw
        have hr3 := irow_keep hr2 (by rw [hm]; exact hg2) hw
        have hg1 : 0 < n → g < A.heap.size := fun h => Nat.lt_of_lt_of_le (hg h) hw.size
        have hg3 : 0 < n → g2 < A.heap.size := fun h => Nat.lt_of_lt_of_le (hg2 h) hw.size
        clear hr hr2 hg hg2
        go_wp2_with fail
        go_loopw [5] (fun i wr => ∃ j : Nat, j ≤ n ∧ i = .int .i64 (j : Int) ∧ r.l.take j = s.l.take j ∧ Below A.heap.size A wr) (fun i _ => n - (intOf i).toNat)
        case atStart => exact ⟨0, by omega, rfl, rfl, Below.refl _ _⟩
        case round =>
          obtain ⟨j, hj, rfl, ht, hb⟩ := hrel
          by_cases cj : j = n
          · subst cj
            rw [List.take_of_length_le (by omega), List.take_of_length_le (by omega)] at ht
            have HT : Hid (true = smR r s) := by show _ = _; rw [HS.out, ht]; simp
            clear ht hr1 hr3
            go_wp2_with fail
            go_ret
            exact ⟨ret_bool HT.out, ab_trans hw hb⟩
          · obtain ⟨x, hx⟩ : ∃ x, r.l[j]? = some x := ⟨r.l[j], List.getElem?_eq_getElem (by omega)⟩
            obtain ⟨y, hy⟩ : ∃ y, s.l[j]? = some y := ⟨s.l[j], List.getElem?_eq_getElem (by omega)⟩
            obtain rfl := hp (by omega)
            obtain rfl := hp2 (by omega)
            have z1 := (hb.cell (p := ⟨g, off + j, none⟩) (hg1 (by omega))).trans (hr1 j x hx)
            have z2 := (hb.cell (p := ⟨g2, off2 + j, none⟩) (hg3 (by omega))).trans (hr3 j y hy)
            have y1 := c6 wr hb
            have y2 := d6 wr hb
            have hji : (j : Int) < (n : Int) := by omega
            have hjn : j < n := by omega
            clear c6 d6 hB0 hB1
            by_cases e : x = y
            · subst e
              have HT : Hid (r.l.take (j + 1) = s.l.take (j + 1)) := by show _ = _; rw [List.take_add_one, List.take_add_one, ht, hx, hy]
              have hxx : (x != x) = false := by simp
              clear hr1 hr3 hx hy ht
              go_upto_region 6 with fail
              go_quiet (fail)
              go_wp2_with fail
              go_roundw
              case rel => exact ⟨j + 1, by omega, by go_num, HT.out, ab_drewN hb _⟩
              case measure => simp [intOf]; omega
            · have HE : Hid (false = smR r s) := by
                show _ = _
                rw [HS.out]
                refine (decide_eq_false (fun h => e ?_)).symm
                rw [h, hy] at hx; exact (Option.some.inj hx).symm
              have hxy : (x != y) = true := by simpa using e
              clear hr1 hr3 hx hy ht
              go_upto_region 6 with fail
              go_quiet (fail)
              go_wp2_with fail
              go_ret
              exact ⟨ret_bool HE.out, ab_trans hw (ab_drewN hb _)⟩
      · have HF : Hid (smR r s = false) := sm_3 (fun e => h3 (by rw [← hn, ← hm, e]))
        have h4 : ((n : Int) != (m : Int)) = true := by simp; omega
        clear hr hr2 hp hp2 hg hg2
        go_wp2_with fail
        go_ret
        exact ⟨ret_bool HF.out.symm, hw⟩
end
end Go.Proofs.Ytlhamckpgijjmaa
namespace Go.Proofs.Ytlhamckpgijjmaa
open Go.RowKit
set_option linter.unusedVariables false

theorem prepare_ok (r : Rg) (b : Bt) (v : Value) (w : World) (hv : Is w v r.l) (h : prN r b = 0) :
    Calls Try.prog 43 #[rV r.p r.a v, bV b] w fun e w' => ∃ q c, e = .returned (.tuple #[rV b r.a (.slice q r.l.length c), .nilIface]) ∧ Io w' w.heap.size (.slice q r.l.length c) r.l ∧ Below w.heap.size w w' := by
  refine (prepare_any r b v w hv).mono ?_
  rintro e w' ⟨⟨q, n, c, rfl, hO, hn⟩, hb⟩
  rw [prR_ok h] at hO hn ⊢
  rw [errV_ok h]
  dsimp only at hn
  subst hn
  exact ⟨q, c, rfl, hO, hb⟩
theorem prepare_no (r : Rg) (b : Bt) (v : Value) (w : World) (k : Nat) (hv : Is w v r.l) (h : prN r b = k) (hk : k ≠ 0) :
    Calls Try.prog 43 #[rV r.p r.a v, bV b] w fun e w' => ∃ q c, e = .returned (.tuple #[rV zB zB (.slice q 0 c), Err k]) ∧ Io w' w.heap.size (.slice q 0 c) [] ∧ Below w.heap.size w w' := by
  refine (prepare_any r b v w hv).mono ?_
  rintro e w' ⟨⟨q, n, c, rfl, hO, hn⟩, hb⟩
  rw [prR_no (by omega)] at hO hn ⊢
  rw [errV_no (by omega), h]
  have : n = 0 := hn.symm
  subst this
  exact ⟨q, c, rfl, hO, hb⟩
theorem accept_ok (r : Rg) (b : Bt) (m : List Int) (v u : Value) (w : World) (hv : Is w v r.l) (hu : Is w u m) (h : acN r b m = 0) :
    Calls Try.prog 42 #[rV r.p r.a v, bV b, u] w fun e w' => ∃ q c, e = .returned (.tuple #[rV b b (.slice q m.length c), .nilIface]) ∧ Io w' w.heap.size (.slice q m.length c) m ∧ Below w.heap.size w w' := by
  refine (accept_any r b v u m w hv hu).mono ?_
  rintro e w' ⟨⟨q, n, c, rfl, hO, hn⟩, hb⟩
  rw [acR_ok h] at hO hn ⊢
  rw [errV_ok h]
  dsimp only at hn
  subst hn
  exact ⟨q, c, rfl, hO, hb⟩
theorem accept_no (r : Rg) (b : Bt) (m : List Int) (v u : Value) (w : World) (k : Nat) (hv : Is w v r.l) (hu : Is w u m) (h : acN r b m = k) (hk : k ≠ 0) :
    Calls Try.prog 42 #[rV r.p r.a v, bV b, u] w fun e w' => ∃ q c, e = .returned (.tuple #[rV zB zB (.slice q 0 c), Err k]) ∧ Io w' w.heap.size (.slice q 0 c) [] ∧ Below w.heap.size w w' := by
  refine (accept_any r b v u m w hv hu).mono ?_
  rintro e w' ⟨⟨q, n, c, rfl, hO, hn⟩, hb⟩
  rw [acR_no (by omega)] at hO hn ⊢
  rw [errV_no (by omega), h]
  have : n = 0 := hn.symm
  subst this
  exact ⟨q, c, rfl, hO, hb⟩
theorem eqBB (w : World) : (binOp .eql 28 (Err 11) (Err 11)).run Try.prog w = .ok (.bool true) w := by kernel_rfl
theorem eqN0 (w : World) : (binOp .eql 28 .nilIface .nilIface).run Try.prog w = .ok (.bool true) w := by kernel_rfl
def b100 : Bt := ⟨1, 0, 0⟩
def b099 : Bt := ⟨0, 9, 9⟩
def b101 : Bt := ⟨1, 0, 1⟩
theorem ex_1 : prN zR b100 = 0 := by decide +kernel
theorem ex_2 : acN ⟨b100, zB, []⟩ b100 [7] = 0 := by decide +kernel
theorem ex_3 : prN ⟨b100, b100, [7]⟩ b100 = 11 := by decide +kernel
theorem ex_4 : acN ⟨b100, b100, [7]⟩ b099 [] = 11 := by decide +kernel
theorem ex_5 : prN ⟨b100, b100, [7]⟩ b101 = 0 := by decide +kernel
end Go.Proofs.Ytlhamckpgijjmaa
namespace Go.Proofs.Ytlhamckpgijjmaa
open Go.RowKit Go.Extern.Stop Go.Stop Go.Extern
set_option linter.unusedVariables false
set_option maxRecDepth 100000

/-- The model's 'Comparable'. -/
def cmpF : Array Value → Sem Value := Extern.ReflectliteType.method fun t => do Extern.Rtype.noPackHeld "Comparable" t; pure (.bool (← typeInfo t).comparable)
/-- What reflectlite hands out for this program's errors. -/
noncomputable def hEr : Value := typeHandle Try.prog 55
theorem isTypeOf (v : Value) (w : World) : (Extern.ReflectliteType.typeOf #[.iface 55 v]).run Try.prog w = .ok (.iface 130 (.agg #[hEr])) w := by kernel_rfl
theorem isComparable (w : World) : (cmpF #[.agg #[hEr]]).run Try.prog w = .ok (.bool true) w := by kernel_rfl
theorem isMethodComparable (v : Value) (w : World) : (Go.method 286 130 v "Comparable").run Try.prog w = .ok (101, v) w := by kernel_rfl
theorem noIsE (v : Value) (xT : TypeId) (w : World) : (Instr.typeAssert (.iface 55 v) xT 132 true).run Try.prog w = .ok (.tuple #[.nilIface, .bool false]) w := run_typeAssert_lacksB Try.underlying132 (by kernel_rfl) (by kernel_rfl) v xT w
theorem noUnwrapE (v : Value) (xT : TypeId) (w : World) : (Instr.typeAssert (.iface 55 v) xT 135 true).run Try.prog w = .ok (.tuple #[.nilIface, .bool false]) w := run_typeAssert_lacksB Try.underlying135 (by kernel_rfl) (by kernel_rfl) v xT w
theorem noUnwrapsE (v : Value) (xT : TypeId) (w : World) : (Instr.typeAssert (.iface 55 v) xT 136 true).run Try.prog w = .ok (.tuple #[.nilIface, .bool false]) w := run_typeAssert_lacksB Try.underlying136 (by kernel_rfl) (by kernel_rfl) v xT w
theorem eqNE (n : Int) (w : World) : (binOp .eql 28 (Err n) .nilIface).run Try.prog w = .ok (.bool false) w := by kernel_rfl
theorem eqNN (w : World) : (binOp .eql 28 .nilIface .nilIface).run Try.prog w = .ok (.bool true) w := by kernel_rfl
theorem eqN11 (w : World) : (binOp .eql 28 .nilIface (Err 11)).run Try.prog w = .ok (.bool false) w := by kernel_rfl
theorem eq1111 (w : World) : (binOp .eql 28 (Err 11) (Err 11)).run Try.prog w = .ok (.bool true) w := by kernel_rfl
theorem eq211 (w : World) : (binOp .eql 28 (Err 2) (Err 11)).run Try.prog w = .ok (.bool false) w := by kernel_rfl
/-- errors.Is(err, ErrStale), where err is nil, ErrForm or ErrStale. -/
theorem eis_nil (w : World) : Calls Try.prog 27 #[.nilIface, Err 11] w fun e w' => e = .returned (.bool false) ∧ w' = w := by
  have h1 := eqNN
  have h2 := eqN11
  go_enter Try.func27, Try.ntmps27
  go_wp2_with fail
  go_ret
  exact ⟨rfl, rfl⟩
theorem eis_same (w : World) : Calls Try.prog 27 #[Err 11, Err 11] w fun e w' => e = .returned (.bool true) ∧ w' = w := by
  have h8 := @run_callFunc_extern Try.prog 44 _ Extern.ReflectliteType.typeOf Try.func44 (by kernel_rfl) (by kernel_rfl) (by kernel_rfl) (by kernel_rfl)
  have h32 := @run_callFunc_extern Try.prog 101 _ cmpF Try.func101 (by kernel_rfl) (by kernel_rfl) (by kernel_rfl) (by kernel_rfl)
  have tT := isTypeOf
  have cT := isComparable
  have mR := isMethodComparable
  have h1 := eqNE 11
  have h2 := eq1111
  go_enter Try.func27, Try.ntmps27
  go_wp2
  refine wp_loop_rounds 1 ?_
  rw [rounds_succ]
  go_wp2
  go_ret
  exact ⟨rfl, rfl⟩
theorem eis_form (w : World) : Calls Try.prog 27 #[Err 2, Err 11] w fun e w' => e = .returned (.bool false) ∧ w' = w := by
  have h8 := @run_callFunc_extern Try.prog 44 _ Extern.ReflectliteType.typeOf Try.func44 (by kernel_rfl) (by kernel_rfl) (by kernel_rfl) (by kernel_rfl)
  have h32 := @run_callFunc_extern Try.prog 101 _ cmpF Try.func101 (by kernel_rfl) (by kernel_rfl) (by kernel_rfl) (by kernel_rfl)
  have tT := isTypeOf
  have cT := isComparable
  have mR := isMethodComparable
  have nE := noIsE
  have uE := noUnwrapE
  have vE := noUnwrapsE
  have h1 := eqNE 2
  have h3 := eqNE 11
  have h2 := eq211
  go_enter Try.func27, Try.ntmps27
  go_wp2
  refine wp_loop_rounds 1 ?_
  rw [rounds_succ]
  go_wp2
  go_ret
  exact ⟨rfl, rfl⟩
end Go.Proofs.Ytlhamckpgijjmaa
