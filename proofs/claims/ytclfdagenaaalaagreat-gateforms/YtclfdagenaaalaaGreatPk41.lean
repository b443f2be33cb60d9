/-
  slices.Equal, of numbers, of operations and of entries.
  slices.Equal of operations and of entries.
  note.Same.
  estuaryref05.Same.
-/
import Derived.Test.YtclfdagenaaalaaGreatPk40
namespace Go.Proofs.YtclfdagenaaalaaGreat
set_option maxRecDepth 100000
open Go.RowKit Go.Shelf
set_option linter.unusedVariables false

theorem take_eq_next {α : Type} {l m : List α} {k : Nat} {x y : α} (h : l.take k = m.take k) (hx : l[k]? = some x) (hy : m[k]? = some y) (e : x = y) : l.take (k + 1) = m.take (k + 1) := by
  rw [List.take_add_one, List.take_add_one, h, hx, hy, e]
end Go.Proofs.YtclfdagenaaalaaGreat
namespace Go.Proofs.YtclfdagenaaalaaGreat
set_option maxRecDepth 100000
open Go.RowKit Go.Shelf
set_option linter.unusedVariables false

theorem range_keep {W W' : World} {g q : Nat} {cs : List Value} (h : W.rangeAt g q cs) (hg : g < W.heap.size) (hb : Below W.heap.size W W') : W'.rangeAt g q cs := fun j v hv => (hb.cell (p := ⟨g, q + j, none⟩) hg).trans (h j v hv)
theorem eqL_next {k : Nat} {l m : List (Nat → Int)} {j : Nat} {x y : Nat → Int} (h : EqL k (l.take j) (m.take j)) (hx : l[j]? = some x) (hy : m[j]? = some y) (e : ∀ i, i < k → x i = y i) : EqL k (l.take (j + 1)) (m.take (j + 1)) := by
  have l1 := (List.getElem?_eq_some_iff.1 hx).1
  have l2 := (List.getElem?_eq_some_iff.1 hy).1
  refine ⟨by rw [List.length_take, List.length_take]; omega, fun i a b ha hb => ?_⟩
  have hi : i < j + 1 := by have := (List.getElem?_eq_some_iff.1 ha).1; rw [List.length_take] at this; omega
  rw [List.getElem?_take_of_lt hi] at ha hb
  by_cases c : i = j
  · subst c
    rw [hx] at ha
    rw [hy] at hb
    cases ha; cases hb
    exact e
  · exact h.2 i a b (by rw [List.getElem?_take_of_lt (by omega)]; exact ha) (by rw [List.getElem?_take_of_lt (by omega)]; exact hb)

theorem ld_ops {o : Oper} {ρ : Operand → Value} {x : Operand} {b q : Nat} {c : Nat → Int} {w : World} (ho : o.op = .load 65 x) (hx : ρ x = .pointer (some ⟨b, q, none⟩)) (hr : w.rangeAt b q (AG 5 k64 c).toList) :
    (execOp ρ o).run Tryz.prog w = .ok (.value (.agg (AG 5 k64 c))) w := by
  unfold execOp
  have h : (Tryz.prog.info? 65).map (·.size) = some (AG 5 k64 c).toList.length := by rw [AG_len]; kernel_rfl
  simp only [ho, hx, Instr.loadAt, Instr.sureAddr, Sem.run_bind, Sem.run_pure, Result.andThen_ok, run_loadVar_mid w b q 65 (AG 5 k64 c).toList _ hr Tryz.underlying65 rfl h]
theorem neqo_ops {o : Oper} {ρ : Operand → Value} {x y : Operand} {t' : TypeId} {c d : Nat → Int} (ho : o.op = .binOp .neq 65 x y t') (hx : ρ x = .agg (AG 5 k64 c)) (hy : ρ y = .agg (AG 5 k64 d)) (w : World) :
    (execOp ρ o).run Tryz.prog w = .ok (.value (.bool (!eqA 5 c d))) w := by
  unfold execOp
  have eg : ∀ (xs ys : Array Value), (eqGuard .neq 65 x y (.agg xs) (.agg ys)).run Tryz.prog w = .ok () w := fun xs ys => run_eqGuard_agg w .neq 65 x y xs ys (by kernel_rfl)
  simp only [ho, hx, hy, Sem.run_bind, eg, neq_op5, Result.andThen_ok, Sem.run_pure]
theorem ld_ents {o : Oper} {ρ : Operand → Value} {x : Operand} {b q : Nat} {c : Nat → Int} {w : World} (ho : o.op = .load 79 x) (hx : ρ x = .pointer (some ⟨b, q, none⟩)) (hr : w.rangeAt b q (AG 76 ek c).toList) :
    (execOp ρ o).run Tryz.prog w = .ok (.value (.agg (AG 76 ek c))) w := by
  unfold execOp
  have h : (Tryz.prog.info? 79).map (·.size) = some (AG 76 ek c).toList.length := by rw [AG_len]; kernel_rfl
  simp only [ho, hx, Instr.loadAt, Instr.sureAddr, Sem.run_bind, Sem.run_pure, Result.andThen_ok, run_loadVar_mid w b q 79 (AG 76 ek c).toList _ hr Tryz.underlying79 rfl h]
theorem neqo_ents {o : Oper} {ρ : Operand → Value} {x y : Operand} {t' : TypeId} {c d : Nat → Int} (ho : o.op = .binOp .neq 79 x y t') (hx : ρ x = .agg (AG 76 ek c)) (hy : ρ y = .agg (AG 76 ek d)) (w : World) :
    (execOp ρ o).run Tryz.prog w = .ok (.value (.bool (!eqA 76 c d))) w := by
  unfold execOp
  have eg : ∀ (xs ys : Array Value), (eqGuard .neq 79 x y (.agg xs) (.agg ys)).run Tryz.prog w = .ok () w := fun xs ys => run_eqGuard_agg w .neq 79 x y xs ys (by kernel_rfl)
  simp only [ho, hx, hy, Sem.run_bind, eg, neq_ent, Result.andThen_ok, Sem.run_pure]
set_option maxHeartbeats 2000000 in
set_option maxRecDepth 100000 in
theorem equal_ents (v1 v2 : Value) (l m : List (Nat → Int)) (w : World) (h1 : SR 76 ek w v1 l) (h2 : SR 76 ek w v2 m) :
    Calls Tryz.prog 29 #[v1, v2] w fun r w' => BIff r (EqL 76 l m) ∧ Below w.heap.size w w' := by
  obtain ⟨q1, c1, g1, o1, rfl, hc1, hm1, hp1, hg1, hr1⟩ := h1
  obtain ⟨q2, c2, g2, o2, rfl, hc2, hm2, hp2, hg2, hr2⟩ := h2
  by_cases hl : l.length = m.length
  · generalize hn : l.length = n at *
    generalize hn2 : m.length = n2 at *
    subst hl
    have e0 : ((n : Int) != (n : Int)) = false := by simp
    go_enter Tryz.func29, Tryz.ntmps29
    go_wp2_with fail
    go_loopw [13] (fun i wr => ∃ k : Nat, k ≤ n ∧ i = .int .i64 (k : Int) ∧ EqL 76 (l.take k) (m.take k) ∧ Below w.heap.size w wr) (fun i _ => n - (intOf i).toNat)
    case atStart => exact ⟨0, by omega, rfl, by simpa using EqL.refl _ _, Below.refl _ _⟩
    case round =>
      obtain ⟨k, hk, rfl, ht, hb⟩ := hrel
      have HT : Hid (EqL 76 (l.take k) (m.take k)) := ht
      clear ht
      by_cases c : k = n
      · subst c
        have HE : Hid (BIff (.returned (.bool true)) (EqL 76 l m)) := ⟨true, rfl, by
          have := HT.out
          rw [List.take_of_length_le (by omega), List.take_of_length_le (by omega)] at this
          simp [this]⟩
        go_wp2_with fail
        go_ret
        exact ⟨HE.out, hb⟩
      · obtain ⟨x, hx⟩ : ∃ x, l[k]? = some x := ⟨l[k], List.getElem?_eq_getElem (by omega)⟩
        obtain ⟨y, hy⟩ : ∃ y, m[k]? = some y := ⟨m[k], List.getElem?_eq_getElem (by omega)⟩
        obtain rfl := hp1 (by omega)
        obtain rfl := hp2 (by omega)
        have gw1 : g1 < w.heap.size := hg1 (by omega)
        have gw2 : g2 < w.heap.size := hg2 (by omega)
        have R1 : Hid (∀ w', Below wr.heap.size wr w' → w'.rangeAt g1 (o1 + k * 76) (AG 76 ek x).toList) := fun w' hb' => range_keep (hr1 k x hx) gw1 (ab_trans hb hb')
        have R2 : Hid (∀ w', Below wr.heap.size wr w' → w'.rangeAt g2 (o2 + k * 76) (AG 76 ek y).toList) := fun w' hb' => range_keep (hr2 k y hy) gw2 (ab_trans hb hb')
        have hki : (k : Int) < (n : Int) := by omega
        have hkn : k < n := by omega
        have HN : Hid ((∀ i, i < 76 → x i = y i) → EqL 76 (l.take (k + 1)) (m.take (k + 1))) := fun e => eqL_next HT.out hx hy e
        have HE : Hid ((¬ ∀ i, i < 76 → x i = y i) → BIff (.returned (.bool false)) (EqL 76 l m)) := fun e => ⟨false, rfl, ⟨fun h => by simp at h, fun h => absurd (h.2 k x y hx hy) e⟩⟩
        clear hr1 hr2 hp1 hp2 hg1 hg2 hx hy hn hn2 gw1 gw2
        go_upto_region 6 with fail
        refine wp_region_below (by kernel_rfl) (by kernel_rfl) ?_
        have HZ := cls_some wr
        go_big_quiet_step (fail)
        go_big_quiet_step (fail)
        go_big_quiet_step (fail)
        refine quiet_val rfl _ (fun w' hw' => by obtain ⟨z, hz⟩ := hw'; exact ld_ents rfl rfl (hz ▸ R1.out _ z.prop)) ?_
        simp only [Act.put, List.setIfInBounds_toArray, List.set_cons_succ, List.set_cons_zero]
        go_big_quiet_step (fail)
        go_big_quiet_step (fail)
        go_big_quiet_step (fail)
        refine quiet_val rfl _ (fun w' hw' => by obtain ⟨z, hz⟩ := hw'; exact ld_ents rfl rfl (hz ▸ R2.out _ z.prop)) ?_
        simp only [Act.put, List.setIfInBounds_toArray, List.set_cons_succ, List.set_cons_zero]
        refine quiet_val rfl _ (fun w' _ => neqo_ents rfl rfl rfl w') ?_
        simp only [Act.put, List.setIfInBounds_toArray, List.set_cons_succ, List.set_cons_zero]
        refine wpQuiet_nil ?_
        rintro w7 ⟨⟨W7, b7⟩, e7⟩
        dsimp only at e7
        subst e7
        have hb7 := ab_trans hb b7
        cases he : eqA 76 x y with
        | true =>
          have HN' := HN.out ((eqA_iff _ _ _).1 he)
          have HN2 : Hid (EqL 76 (l.take (k + 1)) (m.take (k + 1))) := HN'
          clear HN' HN HE
          go_wp2_with fail
          exact ⟨⟨k + 1, by omega, rfl, HN2.out, hb7⟩, by simp only [intOf]; omega⟩
        | false =>
          have HE2 : Hid (BIff (.returned (.bool false)) (EqL 76 l m)) := HE.out (fun h => by rw [(eqA_iff _ _ _).2 h] at he; cases he)
          clear HN HE
          go_wp2_with fail
          go_ret
          exact ⟨HE2.out, hb7⟩
  · have HE : Hid (BIff (.returned (.bool false)) (EqL 76 l m)) := ⟨false, rfl, ⟨fun h => by simp at h, fun h => absurd h.1 hl⟩⟩
    have e0 : ((l.length : Int) != (m.length : Int)) = true := by simp; omega
    clear hl hr1 hr2 hp1 hp2 hg1 hg2
    generalize l.length = n at *
    generalize m.length = n2 at *
    go_enter Tryz.func29, Tryz.ntmps29
    go_wp2_with fail
    go_ret
    exact ⟨HE.out, Below.refl _ _⟩
end Go.Proofs.YtclfdagenaaalaaGreat
namespace Go.Proofs.YtclfdagenaaalaaGreat
set_option maxRecDepth 100000
open Go.RowKit Go.Shelf
set_option linter.unusedVariables false

theorem biff_true {r : Ending} {P : Prop} (h : BIff r P) (hp : P) : r = .returned (.bool true) := by
  obtain ⟨z, rfl, hz⟩ := h
  rw [hz.2 hp]
theorem biff_false {r : Ending} {P : Prop} (h : BIff r P) (hp : ¬ P) : r = .returned (.bool false) := by
  obtain ⟨z, rfl, hz⟩ := h
  cases z with
  | false => rfl
  | true => exact absurd (hz.1 rfl) hp
theorem biff_no {P : Prop} (hp : ¬ P) : BIff (.returned (.bool false)) P := ⟨false, rfl, ⟨fun h => by simp at h, fun h => absurd h hp⟩⟩
theorem biff_yes {P : Prop} (hp : P) : BIff (.returned (.bool true)) P := ⟨true, rfl, ⟨fun _ => hp, fun _ => rfl⟩⟩
end Go.Proofs.YtclfdagenaaalaaGreat
namespace Go.Proofs.YtclfdagenaaalaaGreat
set_option maxRecDepth 100000
open Go.RowKit Go.Shelf
set_option linter.unusedVariables false

set_option maxHeartbeats 8000000 in
set_option maxRecDepth 100000 in
theorem rsame_any (A B : Nt) (vn vo ve un uo ue : Value) (w : World) (h1 : Is w vn A.ns) (h2 : SR 5 k64 w vo A.os) (h3 : SR 76 ek w ve A.es) (g1 : Is w un B.ns) (g2 : SR 5 k64 w uo B.os) (g3 : SR 76 ek w ue B.es) :
    Calls Tryz.prog 9 #[ntV A vn vo ve, ntV B un uo ue] w fun r w' => BIff r (SameN A B) ∧ Below w.heap.size w w' := by
  obtain ⟨q1, c1, a1, o1, rfl, hc1, hm1, hp1, hg1, hr1⟩ := h1
  obtain ⟨q2, c2, a2, o2, rfl, hc2, hm2, hp2, hg2, hr2⟩ := h2
  obtain ⟨q3, c3, a3, o3, rfl, hc3, hm3, hp3, hg3, hr3⟩ := h3
  obtain ⟨q4, c4, a4, o4, rfl, hc4, hm4, hp4, hg4, hr4⟩ := g1
  obtain ⟨q5, c5, a5, o5, rfl, hc5, hm5, hp5, hg5, hr5⟩ := g2
  obtain ⟨q6, c6, a6, o6, rfl, hc6, hm6, hp6, hg6, hr6⟩ := g3
  obtain ⟨k, f, t, ns, os, es⟩ := A
  obtain ⟨k', f', t', ns', os', es'⟩ := B
  dsimp only at *
  generalize hn1 : ns.length = n1 at *
  generalize hn2 : os.length = n2 at *
  generalize hn3 : es.length = n3 at *
  generalize hn4 : ns'.length = n4 at *
  generalize hn5 : os'.length = n5 at *
  generalize hn6 : es'.length = n6 at *
  go_enter Tryz.func9, Tryz.ntmps9
  go_upto_region 1 with fail
  have hA := ab_alloc (ab_alloc (Below.refl w.heap.size w) (.cells #[.int .i64 k, .int .i64 f, .int .i64 t, .slice q1 n1 c1, .slice q2 n2 c2, .slice q3 n3 c3] 36)) (.cells #[.int .i64 k', .int .i64 f', .int .i64 t', .slice q4 n4 c4, .slice q5 n5 c5, .slice q6 n6 c6] 36)
  have hP := (Blk.new w #[.int .i64 k, .int .i64 f, .int .i64 t, .slice q1 n1 c1, .slice q2 n2 c2, .slice q3 n3 c3] 36).alloc (.cells #[.int .i64 k', .int .i64 f', .int .i64 t', .slice q4 n4 c4, .slice q5 n5 c5, .slice q6 n6 c6] 36)
  have hR := Blk.new (w.alloc (.cells #[.int .i64 k, .int .i64 f, .int .i64 t, .slice q1 n1 c1, .slice q2 n2 c2, .slice q3 n3 c3] 36)) #[.int .i64 k', .int .i64 f', .int .i64 t', .slice q4 n4 c4, .slice q5 n5 c5, .slice q6 n6 c6] 36
  rw [show (w.alloc (.cells #[.int .i64 k, .int .i64 f, .int .i64 t, .slice q1 n1 c1, .slice q2 n2 c2, .slice q3 n3 c3] 36)).heap.size = w.heap.size + 1 by simp] at hR
  generalize (w.alloc (.cells #[.int .i64 k, .int .i64 f, .int .i64 t, .slice q1 n1 c1, .slice q2 n2 c2, .slice q3 n3 c3] 36)).alloc (.cells #[.int .i64 k', .int .i64 f', .int .i64 t', .slice q4 n4 c4, .slice q5 n5 c5, .slice q6 n6 c6] 36) = V at *
  have DP : ∀ W, Below V.heap.size V W → Six W w.heap.size (.int .i64 k) (.int .i64 f) (.int .i64 t) (.slice q1 n1 c1) (.slice q2 n2 c2) (.slice q3 n3 c3) := fun W hb => six (hP.keep hb)
  have DR : ∀ W, Below V.heap.size V W → Six W (w.heap.size + 1) (.int .i64 k') (.int .i64 f') (.int .i64 t') (.slice q4 n4 c4) (.slice q5 n5 c5) (.slice q6 n6 c6) := fun W hb => six (hR.keep hb)
  clear hP hR
  generalize w.heap.size + 1 = B2 at *
  obtain ⟨p0, p1, p2, p3, p4, p5, -, -, -, -, -, -⟩ := DP V (Below.refl _ _)
  obtain ⟨r0, r1, r2, r3, r4, r5, -, -, -, -, -, -⟩ := DR V (Below.refl _ _)
  have HNo : Hid (¬ (k = k' ∧ f = f' ∧ t = t' ∧ n1 = n4 ∧ n2 = n5 ∧ n3 = n6) → BIff (.returned (.bool false)) (SameN ⟨k, f, t, ns, os, es⟩ ⟨k', f', t', ns', os', es'⟩)) := fun h => biff_no fun s => h ⟨s.k, s.f, s.t, by rw [← hn1, ← hn4]; exact congrArg List.length s.ns, by rw [← hn2, ← hn5]; exact s.os.1, by rw [← hn3, ← hn6]; exact s.es.1⟩
  have HNn : Hid (¬ ns = ns' → BIff (.returned (.bool false)) (SameN ⟨k, f, t, ns, os, es⟩ ⟨k', f', t', ns', os', es'⟩)) := fun h => biff_no fun s => h s.ns
  have HNo2 : Hid (¬ EqL 5 os os' → BIff (.returned (.bool false)) (SameN ⟨k, f, t, ns, os, es⟩ ⟨k', f', t', ns', os', es'⟩)) := fun h => biff_no fun s => h s.os
  have HNe : Hid (¬ EqL 76 es es' → BIff (.returned (.bool false)) (SameN ⟨k, f, t, ns, os, es⟩ ⟨k', f', t', ns', os', es'⟩)) := fun h => biff_no fun s => h s.es
  by_cases d0 : k = k'
  case neg =>
    have e0 : (k != k') = true := by simpa using d0
    have HE := HNo.out (fun h => d0 h.1)
    go_wp2_with fail
    go_ret
    exact ⟨HE, hA⟩
  have e0 : (k != k') = false := by simpa using d0
  by_cases d1 : f = f'
  case neg =>
    have e1 : (f != f') = true := by simpa using d1
    have HE := HNo.out (fun h => d1 h.2.1)
    go_wp2_with fail
    go_ret
    exact ⟨HE, hA⟩
  have e1 : (f != f') = false := by simpa using d1
  by_cases d2 : t = t'
  case neg =>
    have e2 : (t != t') = true := by simpa using d2
    have HE := HNo.out (fun h => d2 h.2.2.1)
    go_wp2_with fail
    go_ret
    exact ⟨HE, hA⟩
  have e2 : (t != t') = false := by simpa using d2
  by_cases d3 : n1 = n4
  case neg =>
    have e3 : ((n1 : Int) != (n4 : Int)) = true := by simp; omega
    have HE := HNo.out (fun h => d3 h.2.2.2.1)
    go_wp2_with fail
    go_ret
    exact ⟨HE, hA⟩
  have e3 : ((n1 : Int) != (n4 : Int)) = false := by simp; omega
  by_cases d4 : n2 = n5
  case neg =>
    have e4 : ((n2 : Int) != (n5 : Int)) = true := by simp; omega
    have HE := HNo.out (fun h => d4 h.2.2.2.2.1)
    go_wp2_with fail
    go_ret
    exact ⟨HE, hA⟩
  have e4 : ((n2 : Int) != (n5 : Int)) = false := by simp; omega
  by_cases d5 : n3 = n6
  case neg =>
    have e5 : ((n3 : Int) != (n6 : Int)) = true := by simp; omega
    have HE := HNo.out (fun h => d5 h.2.2.2.2.2)
    go_wp2_with fail
    go_ret
    exact ⟨HE, hA⟩
  have e5 : ((n3 : Int) != (n6 : Int)) = false := by simp; omega
  subst d0; subst d1; subst d2; subst d3; subst d4; subst d5
  have DPl : ∀ W, Below V.heap.size V W → w.heap.size < W.heap.size ∧ B2 < W.heap.size := fun W hb => ⟨World.block_lt_of_cell? W _ (DP W hb).c0, World.block_lt_of_cell? W _ (DR W hb).c0⟩
  go_upto_region 3 with fail
  go_wp2_with fail
  go_loopw [5] (fun i wr => ∃ j : Nat, j ≤ n1 ∧ i = .int .i64 (j : Int) ∧ ns.take j = ns'.take j ∧ Below V.heap.size V wr) (fun i _ => n1 - (intOf i).toNat)
  case atStart => exact ⟨0, by omega, rfl, by simp, Below.refl _ _⟩
  case round =>
    obtain ⟨j, hj, rfl, ht, hb⟩ := hrel
    have HT : Hid (ns.take j = ns'.take j) := ht
    clear ht p0 p1 p2 p3 p4 p5 r0 r1 r2 r3 r4 r5
    obtain ⟨p0, p1, p2, p3, p4, p5, -, -, -, -, -, -⟩ := DP wr hb
    obtain ⟨r0, r1, r2, r3, r4, r5, -, -, -, -, -, -⟩ := DR wr hb
    have hbw := ab_trans hA hb
    by_cases c : j = n1
    · subst c
      have HEN : Hid (ns = ns') := by have := HT.out; rwa [List.take_of_length_le (by omega), List.take_of_length_le (by omega)] at this
      clear HT
      have HB0 := hb
      go_wp2_with fail
      go_loopw [6] (fun i wr => ∃ j : Nat, j ≤ n2 ∧ i = .int .i64 (j : Int) ∧ EqL 5 (os.take j) (os'.take j) ∧ Below V.heap.size V wr) (fun i _ => n2 - (intOf i).toNat)
      case atStart => exact ⟨0, by omega, rfl, by simpa using EqL.refl _ _, HB0⟩
      case round =>
        obtain ⟨j, hj, rfl, ht, hb⟩ := hrel
        have HT : Hid (EqL 5 (os.take j) (os'.take j)) := ht
        clear ht
        obtain ⟨p0, p1, p2, p3, p4, p5, -, -, -, -, -, -⟩ := DP wr hb
        obtain ⟨r0, r1, r2, r3, r4, r5, -, -, -, -, -, -⟩ := DR wr hb
        have hbw := ab_trans hA hb
        by_cases c : j = n2
        · subst c
          have HEQ : Hid (EqL 5 os os') := by have := HT.out; rwa [List.take_of_length_le (by omega), List.take_of_length_le (by omega)] at this
          have HEO := HEQ
          clear HEQ HT
          have HB0 := hb
          go_wp2_with fail
          go_loopw [7] (fun i wr => ∃ j : Nat, j ≤ n3 ∧ i = .int .i64 (j : Int) ∧ EqL 76 (es.take j) (es'.take j) ∧ Below V.heap.size V wr) (fun i _ => n3 - (intOf i).toNat)
          case atStart => exact ⟨0, by omega, rfl, by simpa using EqL.refl _ _, HB0⟩
          case round =>
            obtain ⟨j, hj, rfl, ht, hb⟩ := hrel
            have HT : Hid (EqL 76 (es.take j) (es'.take j)) := ht
            clear ht
            obtain ⟨p0, p1, p2, p3, p4, p5, -, -, -, -, -, -⟩ := DP wr hb
            obtain ⟨r0, r1, r2, r3, r4, r5, -, -, -, -, -, -⟩ := DR wr hb
            have hbw := ab_trans hA hb
            by_cases c : j = n3
            · subst c
              have HEQ : Hid (EqL 76 es es') := by have := HT.out; rwa [List.take_of_length_le (by omega), List.take_of_length_le (by omega)] at this
              have HY : Hid (BIff (.returned (.bool true)) (SameN ⟨k, f, t, ns, os, es⟩ ⟨k, f, t, ns', os', es'⟩)) := biff_yes ⟨rfl, rfl, rfl, HEN.out, HEO.out, HEQ.out⟩
              go_wp2_with fail
              go_ret
              exact ⟨HY.out, hbw⟩
            · obtain ⟨x, hx⟩ : ∃ x, es[j]? = some x := ⟨es[j], List.getElem?_eq_getElem (by omega)⟩
              obtain ⟨y, hy⟩ : ∃ y, es'[j]? = some y := ⟨es'[j], List.getElem?_eq_getElem (by omega)⟩
              obtain rfl := hp3 (by omega)
              obtain rfl := hp6 (by omega)
              have gw1 : a3 < w.heap.size := hg3 (by omega)
              have gw2 : a6 < w.heap.size := hg6 (by omega)
              have R1 : Hid (∀ w', Below wr.heap.size wr w' → w'.rangeAt a3 (o3 + j * 76) (AG 76 ek x).toList) := fun w' hb' => range_keep (hr3 j x hx) gw1 (ab_trans hbw hb')
              have R2 : Hid (∀ w', Below wr.heap.size wr w' → w'.rangeAt a6 (o6 + j * 76) (AG 76 ek y).toList) := fun w' hb' => range_keep (hr6 j y hy) gw2 (ab_trans hbw hb')
              have hki : (j : Int) < (n3 : Int) := by omega
              have hkn : j < n3 := by omega
              have HN : Hid ((∀ i, i < 76 → x i = y i) → EqL 76 (es.take (j + 1)) (es'.take (j + 1))) := fun e => eqL_next HT.out hx hy e
              have HE : Hid ((¬ ∀ i, i < 76 → x i = y i) → BIff (.returned (.bool false)) (SameN ⟨k, f, t, ns, os, es⟩ ⟨k, f, t, ns', os', es'⟩)) := fun e => HNe.out (fun h => absurd (h.2 j x y hx hy) e)
              clear hr3 hr6 hp3 hp6 hg3 hg6 hx hy gw1 gw2
              go_upto_region 16 with fail
              have ca := cls_cell p5 (DPl wr hb).1
              have cb := cls_cell r5 (DPl wr hb).2
              refine wp_region_below (by kernel_rfl) (by kernel_rfl) ?_
              have HZ := cls_some wr
              go_big_quiet_step (fail)
              go_big_quiet_step (fail)
              go_big_quiet_step (fail)
              go_big_quiet_step (fail)
              refine quiet_val rfl _ (fun w' hw' => by obtain ⟨z, hz⟩ := hw'; exact ld_ents rfl rfl (hz ▸ R1.out _ z.prop)) ?_
              simp only [Act.put, List.setIfInBounds_toArray, List.set_cons_succ, List.set_cons_zero]
              go_big_quiet_step (fail)
              go_big_quiet_step (fail)
              go_big_quiet_step (fail)
              go_big_quiet_step (fail)
              refine quiet_val rfl _ (fun w' hw' => by obtain ⟨z, hz⟩ := hw'; exact ld_ents rfl rfl (hz ▸ R2.out _ z.prop)) ?_
              simp only [Act.put, List.setIfInBounds_toArray, List.set_cons_succ, List.set_cons_zero]
              refine quiet_val rfl _ (fun w' _ => neqo_ents rfl rfl rfl w') ?_
              simp only [Act.put, List.setIfInBounds_toArray, List.set_cons_succ, List.set_cons_zero]
              refine wpQuiet_nil ?_
              rintro w7 ⟨⟨W7, b7⟩, e7⟩
              dsimp only at e7
              subst e7
              have hb7 := ab_trans hb b7
              clear ca cb HZ
              cases he : eqA 76 x y with
              | true =>
                have HN2 : Hid (EqL 76 (es.take (j + 1)) (es'.take (j + 1))) := HN.out ((eqA_iff _ _ _).1 he)
                clear HN HE
                go_wp2_with fail
                exact ⟨⟨j + 1, by omega, rfl, HN2.out, hb7⟩, by simp only [intOf]; omega⟩
              | false =>
                have HE2 : Hid (BIff (.returned (.bool false)) (SameN ⟨k, f, t, ns, os, es⟩ ⟨k, f, t, ns', os', es'⟩)) := HE.out (fun h => by rw [(eqA_iff _ _ _).2 h] at he; cases he)
                clear HN HE
                go_wp2_with fail
                go_ret
                exact ⟨HE2.out, ab_trans hA hb7⟩
        · obtain ⟨x, hx⟩ : ∃ x, os[j]? = some x := ⟨os[j], List.getElem?_eq_getElem (by omega)⟩
          obtain ⟨y, hy⟩ : ∃ y, os'[j]? = some y := ⟨os'[j], List.getElem?_eq_getElem (by omega)⟩
          obtain rfl := hp2 (by omega)
          obtain rfl := hp5 (by omega)
          have gw1 : a2 < w.heap.size := hg2 (by omega)
          have gw2 : a5 < w.heap.size := hg5 (by omega)
          have R1 : Hid (∀ w', Below wr.heap.size wr w' → w'.rangeAt a2 (o2 + j * 5) (AG 5 k64 x).toList) := fun w' hb' => range_keep (hr2 j x hx) gw1 (ab_trans hbw hb')
          have R2 : Hid (∀ w', Below wr.heap.size wr w' → w'.rangeAt a5 (o5 + j * 5) (AG 5 k64 y).toList) := fun w' hb' => range_keep (hr5 j y hy) gw2 (ab_trans hbw hb')
          have hki : (j : Int) < (n2 : Int) := by omega
          have hkn : j < n2 := by omega
          have HN : Hid ((∀ i, i < 5 → x i = y i) → EqL 5 (os.take (j + 1)) (os'.take (j + 1))) := fun e => eqL_next HT.out hx hy e
          have HE : Hid ((¬ ∀ i, i < 5 → x i = y i) → BIff (.returned (.bool false)) (SameN ⟨k, f, t, ns, os, es⟩ ⟨k, f, t, ns', os', es'⟩)) := fun e => HNo2.out (fun h => absurd (h.2 j x y hx hy) e)
          clear hr2 hr5 hp2 hp5 hg2 hg5 hx hy gw1 gw2
          go_upto_region 11 with fail
          have ca := cls_cell p4 (DPl wr hb).1
          have cb := cls_cell r4 (DPl wr hb).2
          refine wp_region_below (by kernel_rfl) (by kernel_rfl) ?_
          have HZ := cls_some wr
          go_big_quiet_step (fail)
          go_big_quiet_step (fail)
          go_big_quiet_step (fail)
          go_big_quiet_step (fail)
          refine quiet_val rfl _ (fun w' hw' => by obtain ⟨z, hz⟩ := hw'; exact ld_ops rfl rfl (hz ▸ R1.out _ z.prop)) ?_
          simp only [Act.put, List.setIfInBounds_toArray, List.set_cons_succ, List.set_cons_zero]
          go_big_quiet_step (fail)
          go_big_quiet_step (fail)
          go_big_quiet_step (fail)
          go_big_quiet_step (fail)
          refine quiet_val rfl _ (fun w' hw' => by obtain ⟨z, hz⟩ := hw'; exact ld_ops rfl rfl (hz ▸ R2.out _ z.prop)) ?_
          simp only [Act.put, List.setIfInBounds_toArray, List.set_cons_succ, List.set_cons_zero]
          refine quiet_val rfl _ (fun w' _ => neqo_ops rfl rfl rfl w') ?_
          simp only [Act.put, List.setIfInBounds_toArray, List.set_cons_succ, List.set_cons_zero]
          refine wpQuiet_nil ?_
          rintro w7 ⟨⟨W7, b7⟩, e7⟩
          dsimp only at e7
          subst e7
          have hb7 := ab_trans hb b7
          clear ca cb HZ
          cases he : eqA 5 x y with
          | true =>
            have HN2 : Hid (EqL 5 (os.take (j + 1)) (os'.take (j + 1))) := HN.out ((eqA_iff _ _ _).1 he)
            clear HN HE
            go_wp2_with fail
            exact ⟨⟨j + 1, by omega, rfl, HN2.out, hb7⟩, by simp only [intOf]; omega⟩
          | false =>
            have HE2 : Hid (BIff (.returned (.bool false)) (SameN ⟨k, f, t, ns, os, es⟩ ⟨k, f, t, ns', os', es'⟩)) := HE.out (fun h => by rw [(eqA_iff _ _ _).2 h] at he; cases he)
            clear HN HE
            go_wp2_with fail
            go_ret
            exact ⟨HE2.out, ab_trans hA hb7⟩
    · obtain ⟨x, hx⟩ : ∃ x, ns[j]? = some x := ⟨ns[j], List.getElem?_eq_getElem (by omega)⟩
      obtain ⟨y, hy⟩ : ∃ y, ns'[j]? = some y := ⟨ns'[j], List.getElem?_eq_getElem (by omega)⟩
      obtain rfl := hp1 (by omega)
      obtain rfl := hp4 (by omega)
      have d1 := (hbw.cell (p := ⟨a1, o1 + j, none⟩) (hg1 (by omega))).trans (hr1 j x hx)
      have d2 := (hbw.cell (p := ⟨a4, o4 + j, none⟩) (hg4 (by omega))).trans (hr4 j y hy)
      have hki : (j : Int) < (n1 : Int) := by omega
      have hkn : j < n1 := by omega
      by_cases e : x = y
      · have HN : Hid (ns.take (j + 1) = ns'.take (j + 1)) := take_eq_next HT.out hx hy e
        have e1 : (x != y) = false := by simp [e]
        clear hr1 hr2 hr3 hr4 hr5 hr6 hx hy e DP DR DPl
        go_upto_region 6 with fail
        go_quiet (fail)
        go_wp2_with fail
        exact ⟨⟨j + 1, by omega, rfl, HN.out, ab_drewN hb _⟩, by simp only [intOf]; omega⟩
      · have HE : Hid (BIff (.returned (.bool false)) (SameN ⟨k, f, t, ns, os, es⟩ ⟨k, f, t, ns', os', es'⟩)) := HNn.out (fun h => by rw [h, hy] at hx; cases hx; exact absurd rfl e)
        have e1 : (x != y) = true := by simp [e]
        clear hr1 hr2 hr3 hr4 hr5 hr6 hx hy e DP DR DPl
        go_upto_region 6 with fail
        go_quiet (fail)
        go_wp2_with fail
        go_ret
        exact ⟨HE.out, ab_drewN hbw _⟩
end Go.Proofs.YtclfdagenaaalaaGreat
