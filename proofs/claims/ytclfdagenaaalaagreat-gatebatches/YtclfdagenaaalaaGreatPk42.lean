/-
  slices.Equal, of numbers, of operations and of entries.
  slices.Equal of operations and of entries.
-/
import Derived.Test.YtclfdagenaaalaaGreatPk41
namespace Go.Proofs.YtclfdagenaaalaaGreat
set_option maxRecDepth 100000
open Go.RowKit Go.Shelf
set_option linter.unusedVariables false

theorem take_eq_next {α : Type} {l m : List α} {k : Nat} {x y : α} (h : l.take k = m.take k) (hx : l[k]? = some x) (hy : m[k]? = some y) (e : x = y) : l.take (k + 1) = m.take (k + 1) := by
  rw [List.take_add_one, List.take_add_one, h, hx, hy, e]
end Go.Proofs.YtclfdagenaaalaaGreat
namespace Go.Proofs.YtclfdagenaaalaaGreat
set_option maxRecDepth 100000
open Go.RowKit Go.Shelf
set_option linter.unusedVariables false

theorem range_keep {W W' : World} {g q : Nat} {cs : List Value} (h : W.rangeAt g q cs) (hg : g < W.heap.size) (hb : Below W.heap.size W W') : W'.rangeAt g q cs := fun j v hv => (hb.cell (p := ⟨g, q + j, none⟩) hg).trans (h j v hv)
theorem eqL_next {k : Nat} {l m : List (Nat → Int)} {j : Nat} {x y : Nat → Int} (h : EqL k (l.take j) (m.take j)) (hx : l[j]? = some x) (hy : m[j]? = some y) (e : ∀ i, i < k → x i = y i) : EqL k (l.take (j + 1)) (m.take (j + 1)) := by
  have l1 := (List.getElem?_eq_some_iff.1 hx).1
  have l2 := (List.getElem?_eq_some_iff.1 hy).1
  refine ⟨by rw [List.length_take, List.length_take]; omega, fun i a b ha hb => ?_⟩
  have hi : i < j + 1 := by have := (List.getElem?_eq_some_iff.1 ha).1; rw [List.length_take] at this; omega
  rw [List.getElem?_take_of_lt hi] at ha hb
  by_cases c : i = j
  · subst c
    rw [hx] at ha
    rw [hy] at hb
    cases ha; cases hb
    exact e
  · exact h.2 i a b (by rw [List.getElem?_take_of_lt (by omega)]; exact ha) (by rw [List.getElem?_take_of_lt (by omega)]; exact hb)

theorem ld_ops {o : Oper} {ρ : Operand → Value} {x : Operand} {b q : Nat} {c : Nat → Int} {w : World} (ho : o.op = .load 65 x) (hx : ρ x = .pointer (some ⟨b, q, none⟩)) (hr : w.rangeAt b q (AG 5 k64 c).toList) :
    (execOp ρ o).run Tryz.prog w = .ok (.value (.agg (AG 5 k64 c))) w := by
  unfold execOp
  have h : (Tryz.prog.info? 65).map (·.size) = some (AG 5 k64 c).toList.length := by rw [AG_len]; kernel_rfl
  simp only [ho, hx, Instr.loadAt, Instr.sureAddr, Sem.run_bind, Sem.run_pure, Result.andThen_ok, run_loadVar_mid w b q 65 (AG 5 k64 c).toList _ hr Tryz.underlying65 rfl h]
theorem neqo_ops {o : Oper} {ρ : Operand → Value} {x y : Operand} {t' : TypeId} {c d : Nat → Int} (ho : o.op = .binOp .neq 65 x y t') (hx : ρ x = .agg (AG 5 k64 c)) (hy : ρ y = .agg (AG 5 k64 d)) (w : World) :
    (execOp ρ o).run Tryz.prog w = .ok (.value (.bool (!eqA 5 c d))) w := by
  unfold execOp
  have eg : ∀ (xs ys : Array Value), (eqGuard .neq 65 x y (.agg xs) (.agg ys)).run Tryz.prog w = .ok () w := fun xs ys => run_eqGuard_agg w .neq 65 x y xs ys (by kernel_rfl)
  simp only [ho, hx, hy, Sem.run_bind, eg, neq_op5, Result.andThen_ok, Sem.run_pure]
theorem ld_ents {o : Oper} {ρ : Operand → Value} {x : Operand} {b q : Nat} {c : Nat → Int} {w : World} (ho : o.op = .load 79 x) (hx : ρ x = .pointer (some ⟨b, q, none⟩)) (hr : w.rangeAt b q (AG 76 ek c).toList) :
    (execOp ρ o).run Tryz.prog w = .ok (.value (.agg (AG 76 ek c))) w := by
  unfold execOp
  have h : (Tryz.prog.info? 79).map (·.size) = some (AG 76 ek c).toList.length := by rw [AG_len]; kernel_rfl
  simp only [ho, hx, Instr.loadAt, Instr.sureAddr, Sem.run_bind, Sem.run_pure, Result.andThen_ok, run_loadVar_mid w b q 79 (AG 76 ek c).toList _ hr Tryz.underlying79 rfl h]
theorem neqo_ents {o : Oper} {ρ : Operand → Value} {x y : Operand} {t' : TypeId} {c d : Nat → Int} (ho : o.op = .binOp .neq 79 x y t') (hx : ρ x = .agg (AG 76 ek c)) (hy : ρ y = .agg (AG 76 ek d)) (w : World) :
    (execOp ρ o).run Tryz.prog w = .ok (.value (.bool (!eqA 76 c d))) w := by
  unfold execOp
  have eg : ∀ (xs ys : Array Value), (eqGuard .neq 79 x y (.agg xs) (.agg ys)).run Tryz.prog w = .ok () w := fun xs ys => run_eqGuard_agg w .neq 79 x y xs ys (by kernel_rfl)
  simp only [ho, hx, hy, Sem.run_bind, eg, neq_ent, Result.andThen_ok, Sem.run_pure]
set_option maxHeartbeats 2000000 in
set_option maxRecDepth 100000 in
theorem equal_ents (v1 v2 : Value) (l m : List (Nat → Int)) (w : World) (h1 : SR 76 ek w v1 l) (h2 : SR 76 ek w v2 m) :
    Calls Tryz.prog 29 #[v1, v2] w fun r w' => BIff r (EqL 76 l m) ∧ Below w.heap.size w w' := by
  obtain ⟨q1, c1, g1, o1, rfl, hc1, hm1, hp1, hg1, hr1⟩ := h1
  obtain ⟨q2, c2, g2, o2, rfl, hc2, hm2, hp2, hg2, hr2⟩ := h2
  by_cases hl : l.length = m.length
  · generalize hn : l.length = n at *
    generalize hn2 : m.length = n2 at *
    subst hl
    have e0 : ((n : Int) != (n : Int)) = false := by simp
    go_enter Tryz.func29, Tryz.ntmps29
    go_wp2_with fail
    go_loopw [13] (fun i wr => ∃ k : Nat, k ≤ n ∧ i = .int .i64 (k : Int) ∧ EqL 76 (l.take k) (m.take k) ∧ Below w.heap.size w wr) (fun i _ => n - (intOf i).toNat)
    case atStart => exact ⟨0, by omega, rfl, by simpa using EqL.refl _ _, Below.refl _ _⟩
    case round =>
      obtain ⟨k, hk, rfl, ht, hb⟩ := hrel
      have HT : Hid (EqL 76 (l.take k) (m.take k)) := ht
      clear ht
      by_cases c : k = n
      · subst c
        have HE : Hid (BIff (.returned (.bool true)) (EqL 76 l m)) := ⟨true, rfl, by
          have := HT.out
          rw [List.take_of_length_le (by omega), List.take_of_length_le (by omega)] at this
          simp [this]⟩
        go_wp2_with fail
        go_ret
        exact ⟨HE.out, hb⟩
      · obtain ⟨x, hx⟩ : ∃ x, l[k]? = some x := ⟨l[k], List.getElem?_eq_getElem (by omega)⟩
        obtain ⟨y, hy⟩ : ∃ y, m[k]? = some y := ⟨m[k], List.getElem?_eq_getElem (by omega)⟩
        obtain rfl := hp1 (by omega)
        obtain rfl := hp2 (by omega)
        have gw1 : g1 < w.heap.size := hg1 (by omega)
        have gw2 : g2 < w.heap.size := hg2 (by omega)
        have R1 : Hid (∀ w', Below wr.heap.size wr w' → w'.rangeAt g1 (o1 + k * 76) (AG 76 ek x).toList) := fun w' hb' => range_keep (hr1 k x hx) gw1 (ab_trans hb hb')
        have R2 : Hid (∀ w', Below wr.heap.size wr w' → w'.rangeAt g2 (o2 + k * 76) (AG 76 ek y).toList) := fun w' hb' => range_keep (hr2 k y hy) gw2 (ab_trans hb hb')
        have hki : (k : Int) < (n : Int) := by omega
        have hkn : k < n := by omega
        have HN : Hid ((∀ i, i < 76 → x i = y i) → EqL 76 (l.take (k + 1)) (m.take (k + 1))) := fun e => eqL_next HT.out hx hy e
        have HE : Hid ((¬ ∀ i, i < 76 → x i = y i) → BIff (.returned (.bool false)) (EqL 76 l m)) := fun e => ⟨false, rfl, ⟨fun h => by simp at h, fun h => absurd (h.2 k x y hx hy) e⟩⟩
        clear hr1 hr2 hp1 hp2 hg1 hg2 hx hy hn hn2 gw1 gw2
        go_upto_region 6 with fail
        refine wp_region_below (by kernel_rfl) (by kernel_rfl) ?_
        have HZ := cls_some wr
        go_big_quiet_step (fail)
        go_big_quiet_step (fail)
        go_big_quiet_step (fail)
        refine quiet_val rfl _ (fun w' hw' => by obtain ⟨z, hz⟩ := hw'; exact ld_ents rfl rfl (hz ▸ R1.out _ z.prop)) ?_
        simp only [Act.put, List.setIfInBounds_toArray, List.set_cons_succ, List.set_cons_zero]
        go_big_quiet_step (fail)
        go_big_quiet_step (fail)
        go_big_quiet_step (fail)
        refine quiet_val rfl _ (fun w' hw' => by obtain ⟨z, hz⟩ := hw'; exact ld_ents rfl rfl (hz ▸ R2.out _ z.prop)) ?_
        simp only [Act.put, List.setIfInBounds_toArray, List.set_cons_succ, List.set_cons_zero]
        refine quiet_val rfl _ (fun w' _ => neqo_ents rfl rfl rfl w') ?_
        simp only [Act.put, List.setIfInBounds_toArray, List.set_cons_succ, List.set_cons_zero]
        refine wpQuiet_nil ?_
        rintro w7 ⟨⟨W7, b7⟩, e7⟩
        dsimp only at e7
        subst e7
        have hb7 := ab_trans hb b7
        cases he : eqA 76 x y with
        | true =>
          have HN' := HN.out ((eqA_iff _ _ _).1 he)
          have HN2 : Hid (EqL 76 (l.take (k + 1)) (m.take (k + 1))) := HN'
          clear HN' HN HE
          go_wp2_with fail
          exact ⟨⟨k + 1, by omega, rfl, HN2.out, hb7⟩, by simp only [intOf]; omega⟩
        | false =>
          have HE2 : Hid (BIff (.returned (.bool false)) (EqL 76 l m)) := HE.out (fun h => by rw [(eqA_iff _ _ _).2 h] at he; cases he)
          clear HN HE
          go_wp2_with fail
          go_ret
          exact ⟨HE2.out, hb7⟩
  · have HE : Hid (BIff (.returned (.bool false)) (EqL 76 l m)) := ⟨false, rfl, ⟨fun h => by simp at h, fun h => absurd h.1 hl⟩⟩
    have e0 : ((l.length : Int) != (m.length : Int)) = true := by simp; omega
    clear hl hr1 hr2 hp1 hp2 hg1 hg2
    generalize l.length = n at *
    generalize m.length = n2 at *
    go_enter Tryz.func29, Tryz.ntmps29
    go_wp2_with fail
    go_ret
    exact ⟨HE.out, Below.refl _ _⟩
end Go.Proofs.YtclfdagenaaalaaGreat
