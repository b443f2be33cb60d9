/-
  The batches of a lane, one behind the other, are in form, join, come to what is closed, and have each cell just once: estuarylaw17.GateCovers returns true for every input; no condition.
-/
import Derived.Test.YtogbhiklhcibdaaPk52
import Derived.Test.YtogbhiklhcibdaaPk51
import Derived.Test.YtogbhiklhcibdaaPk50
import Derived.Test.YtogbhiklhcibdaaPk45
import Derived.Test.YtogbhiklhcibdaaPk10
import Derived.ProofKit
import Derived.OpenShut
import Derived.ChangeOld
import Derived.Below
namespace Go.Proofs.Ytogbhiklhcibdaa.gateCovers
open Go.ChangeShapes Go.WideShapes Go.ChangeAt Go.RowKit Go.Joins
set_option linter.unusedVariables false
set_option maxRecDepth 100000

theorem gc_out (v : Value) (ops : List Op5) (r mark b0 b1 most : Int) (w : World) (hv : ER E5 w v ops) (hn : r < 1 ∨ 150 < ops.length) :
    Calls Try.prog 3 #[.agg #[v, .int .i64 r, .int .i64 mark, .int .i64 b0, .int .i64 b1], .int .i64 most] w fun e w' => e = .returned (.bool true) ∧ Below w.heap.size w w' := by
  have HBs := fun (V : World) (hb : Below w.heap.size w V) => basins_no v ops r mark (b0, b1) V (hv.keep hb) hn
  obtain ⟨q, cap, ev⟩ := hv.form
  subst ev
  clear hv
  generalize ops.length = n at *
  obtain ⟨A, hE, hX, hw⟩ := blk1 w #[.slice q n cap, .int .i64 r, .int .i64 mark, .int .i64 b0, .int .i64 b1] 26
  have HX : Hid (∀ V, Below A.heap.size A V → V.cell? ⟨w.heap.size, 0, none⟩ = some (.slice q n cap) ∧ V.cell? ⟨w.heap.size, 1, none⟩ = some (.int .i64 r) ∧ V.cell? ⟨w.heap.size, 2, none⟩ = some (.int .i64 mark) ∧ V.cell? ⟨w.heap.size, 3, none⟩ = some (.int .i64 b0) ∧ V.cell? ⟨w.heap.size, 4, none⟩ = some (.int .i64 b1) ∧ Below w.heap.size w V) := fun V hV => ⟨(hX.keep hV).at rfl, (hX.keep hV).at rfl, (hX.keep hV).at rfl, (hX.keep hV).at rfl, (hX.keep hV).at rfl, ab_trans hw hV⟩
  clear hX hw
  go_enter Try.func3, Try.ntmps3
  go_upto_region 3 with (go_at_call 4; refine (alive17_any _).mono ?_; rintro e W1 ⟨rfl, hb1⟩)
  obtain ⟨x0, x1, x2, x3, x4, hw1⟩ := HX.out W1 hb1
  clear hE
  go_upto_region 4 with (go_at_call 5; refine (HBs _ hw1).mono ?_; rintro e W2 ⟨rfl, b2⟩)
  obtain ⟨y0, y1, y2, y3, y4, hw2⟩ := HX.out W2 (ab_trans hb1 b2)
  clear x0 x1 x2 x3 x4 HBs hb1 b2
  by_cases c1 : r < 1
  · go_wp2_with fail
    go_ret
    exact ⟨rfl, hw2⟩
  · have c2 : (150 : Int) < (n : Int) := by omega
    go_wp2_with fail
    go_ret
    exact ⟨rfl, hw2⟩
/-- The tokens of the operations, one by one. -/
theorem tok_snoc {ops : List Op5} {r : Int} {k : Nat} {o : Op5} (h : ops[k]? = some o) : takQ 0 2 [r] (fdO (ops.take (k + 1))) = takQ 0 2 [r] (fdO (ops.take k)) ++ tokL 0 ⟨(k : Int) + 1, 1, o.t, o.y, o.v⟩ (idL o.t o.y 2 [r]) := by
  rw [fdO_snoc h, takQ_append, takQ_samp _ (by show (1 : Int) ≠ 2; omega)]
  congr 1
theorem tok_all (ops : List Op5) (r mark : Int) : takQ 0 2 [r] (fdL ops mark) = takQ 0 2 [r] (fdO ops) := by
  unfold fdL
  rw [takQ_append, takQ_mark _ rfl]
  exact List.append_nil _
theorem tok_len (ops : List Op5) (r : Int) : (takQ 0 2 [r] (fdO ops)).length ≤ ops.length := by
  have := takQ_few (i := 0) (sh := 2) (r := r) (mark := 0) ops
  rwa [tok_all] at this
theorem st_int {ops : Array Oper} {rest : List Oper} {o : Oper} {a : Act} {w : World} {Q : Exit → Act → World → Prop} (hgd : o.guard = none) {x y : Operand} (ho : o.op = .store 3 x y) {b i : Nat} {vs : Array Value} {t : TypeId} {n : Int} {old : Value} (hB : Blk w b vs t)
    (hx : a.eval x = .pointer (some ⟨b, i, none⟩)) (hy : a.eval y = .int .i64 n) (hi : vs[i]? = some old)
    (h : ∀ W', Blk W' b (vs.setIfInBounds i (.int .i64 n)) t → Chg b w W' → wpList Try.prog ops Q rest (a.put o.dst undef) W') : wpList Try.prog ops Q (o :: rest) a w :=
  wpList_plain hgd fun K hK => stI o.dst rfl ho hB hx hy hi (fun W' h1 h2 => hK _ _ (h W' h1 h2))
theorem built_smp1 (o : Op5) : Try.prog.built 43 [(1, .agg #[.int .i64 o.s, .int .i64 o.k, .int .i64 o.t, .int .i64 o.y, .int .i64 o.v])] = some #[.int .i64 0, .int .i64 o.s, .int .i64 o.k, .int .i64 o.t, .int .i64 o.y, .int .i64 o.v] := by kernel_rfl
theorem bs_smp {ops : Array Oper} {rest : List Oper} {o : Oper} {a : Act} {w : World} {Q : Exit → Act → World → Prop} (hgd : o.guard = none) {parts : Array (Nat × Operand)} (ho : o.op = .buildSlice 41 1 parts) (x : Tok) (hl : parts.map (fun (i, x) => (i, a.eval x)) = #[(0, .agg (smA x))])
    (h : ∀ W', EO E6 43 W' w.heap.size (.slice (some ⟨w.heap.size, 0, none⟩) 1 1) [x] → Below w.heap.size w W' → wpList Try.prog ops Q rest (a.put o.dst (.slice (some ⟨w.heap.size, 0, none⟩) 1 1)) W') : wpList Try.prog ops Q (o :: rest) a w :=
  wpList_plain hgd fun K hK => bsEW (E := E6) o.dst rfl ho x hl (fun w => bs_sm1 x w) (fun W' h1 h2 => hK _ _ (h W' h1 h2))
theorem valPl {ops : Array Oper} {rest : List Oper} {o : Oper} {a : Act} {w : World} {Q : Exit → Act → World → Prop} (hgd : o.guard = none) (v : Value) (hr : (execOp a.eval o).run Try.prog w = .ok (.value v) w) (h : wpList Try.prog ops Q rest (a.put o.dst v) w) : wpList Try.prog ops Q (o :: rest) a w :=
  wpList_plain hgd fun K hK => by
    unfold Oper.wp
    rw [hr, Oper.upon_value]
    exact hK _ _ h
theorem valW {o : Oper} {a : Act} {w : World} {K : Act → World → Prop} {Q : Exit → Act → World → Prop} (d : Option Tmp) (hd : o.dst = d) (v : Value) (hr : (execOp a.eval o).run Try.prog w = .ok (.value v) w) (h : K (a.put d v) w) : o.wp Try.prog a w K Q := by
  subst hd
  unfold Oper.wp
  rw [hr, Oper.upon_value]
  exact h
theorem lw_btW {o : Oper} {a : Act} {w : World} {K : Act → World → Prop} {Q : Exit → Act → World → Prop} (d : Option Tmp) (hd : o.dst = d) {x : Operand} {b : Nat} {vs : Array Value} {t : TypeId} (ho : o.op = .load 48 x) (hx : a.eval x = .pointer (some ⟨b, 0, none⟩)) (hB : Blk w b vs t)
    (hi : (Try.prog.info? 48).map (·.size) = some vs.size) (h : K (a.put d (.agg vs)) w) : o.wp Try.prog a w K Q :=
  valW d hd _ (by
    unfold execOp
    simp only [ho, hx, Instr.loadAt, Instr.sureAddr, Sem.run_bind, Sem.run_pure, Result.andThen_ok, run_loadVar_row w b t 48 vs (0, 0) _ hB Try.underlying48 rfl hi]) h
theorem less_b {a b c d : Int} {x : Bool} (h : pl a b c d = x) (V : World) : Calls Try.prog 11 #[Plc a b, Plc c d] V fun e w' => e = .returned (.bool x) ∧ Below V.heap.size V w' := by
  have := rpless_any a b c d V
  rw [h] at this
  exact this
theorem zero_id (w : World) : (zeroValue 40).run Try.prog w = .ok (.agg #[.int .i64 0, .int .i64 0, .int .i64 0]) w := by kernel_rfl
theorem info_id (k : Kyy) : (Try.prog.info? 40).map (·.size) = some (#[.int .i64 k.1, .int .i64 k.2.1, .int .i64 k.2.2] : Array Value).size := by kernel_rfl
set_option maxHeartbeats 8000000 in
theorem gc_in (v : Value) (ops : List Op5) (r mark b0 b1 most : Int) (w : World) (hv : ER E5 w v ops) (hf : ∀ o ∈ ops, Fit5 o) (hr : 1 ≤ r ∧ r ≤ 9223372036854775807) (hm : J64 mark) (hb : J64 b0 ∧ J64 b1) (hn : ops.length ≤ 150) :
    Calls Try.prog 3 #[.agg #[v, .int .i64 r, .int .i64 mark, .int .i64 b0, .int .i64 b1], .int .i64 most] w fun e w' => e = .returned (.bool true) ∧ Below w.heap.size w w' := by
  have hmm := @run_makeMap Try.prog
  have HBs := fun (V : World) (hV : Below w.heap.size w V) => basins_yes v ops r mark (b0, b1) V (hv.keep hV) hf hr hm hb hn
  have HSt : Hid (CvS (bs17 r mark (b0, b1) ops) (takQ 0 2 [r] (fdO ops)) r mark (b0, b1)) := by have := cv_start hf hr hm hb hn (base := (b0, b1)); rwa [tok_all] at this
  generalize bs17 r mark (b0, b1) ops = S at *
  have HF : Hid (∀ o ∈ ops, Fit5 o) := hf
  have HTs : Hid (∀ k o, ops[k]? = some o → takQ 0 2 [r] (fdO (ops.take (k + 1))) = takQ 0 2 [r] (fdO (ops.take k)) ++ tokL 0 ⟨(k : Int) + 1, 1, o.t, o.y, o.v⟩ (idL o.t o.y 2 [r])) := fun k o h => tok_snoc h
  have HTl : Hid (∀ k, (takQ 0 2 [r] (fdO (ops.take k))).length ≤ 150) := fun k => Nat.le_trans (tok_len _ r) (by rw [List.length_take]; omega)
  have HTa : Hid (takQ 0 2 [r] (fdO (ops.take ops.length)) = takQ 0 2 [r] (fdO ops)) := by show _ = _; rw [List.take_length]
  have HIs : Hid (∀ V, Below w.heap.size w V → ER E5 V v ops) := fun V hV => hv.keep hV
  have HCl : Hid (∀ V : World, Calls Try.prog 7 #[.int .i64 mark, .int .i64 r] V fun e w' => e = .returned (Plc (flD mark r) (-9223372036854775808)) ∧ Below V.heap.size V w') := fun V => rclosed_any mark r V hm.1 hm.2 hr.2
  have HcJ : Hid (J64 (flD mark r)) := flD_bd mark r hm.1 hm.2
  obtain ⟨q, cap, ev⟩ := hv.form
  subst ev
  obtain ⟨q', cap', g, off, hform, hc, hcm, hp, hrv⟩ := hv.at
  injection hform with hq1 hq2 hq3
  subst hq1
  subst hq3
  clear hq2 hf hm hb
  generalize hno : ops.length = n at *
  obtain ⟨A, hE, hX, hw⟩ := blk1 w #[.slice q n cap, .int .i64 r, .int .i64 mark, .int .i64 b0, .int .i64 b1] 26
  have HX : Hid (∀ V, Below A.heap.size A V → V.cell? ⟨w.heap.size, 0, none⟩ = some (.slice q n cap) ∧ V.cell? ⟨w.heap.size, 1, none⟩ = some (.int .i64 r) ∧ V.cell? ⟨w.heap.size, 2, none⟩ = some (.int .i64 mark) ∧ V.cell? ⟨w.heap.size, 3, none⟩ = some (.int .i64 b0) ∧ V.cell? ⟨w.heap.size, 4, none⟩ = some (.int .i64 b1) ∧ Below w.heap.size w V) := fun V hV => ⟨(hX.keep hV).at rfl, (hX.keep hV).at rfl, (hX.keep hV).at rfl, (hX.keep hV).at rfl, (hX.keep hV).at rfl, ab_trans hw hV⟩
  have hwA0 := hX.lt
  clear hX hw
  go_enter Try.func3, Try.ntmps3
  go_upto_region 3 with (go_at_call 4; refine (alive17_any _).mono ?_; rintro e W1 ⟨rfl, hb1⟩)
  obtain ⟨x0, x1, x2, x3, x4, hw1⟩ := HX.out W1 hb1
  clear hE
  go_upto_region 4 with (go_at_call 5; refine (HBs _ hw1).mono ?_; rintro e W2 ⟨⟨K, K', R, rfl, hB2, hR2, hS2⟩, b2⟩)
  have hA2 := ab_trans hb1 b2
  clear x0 x1 x2 x3 x4 HBs b2 hR2 hS2 hw1
  go_upto_region 7 with fail
  obtain ⟨k1, h1, e1⟩ := mod_nat17 most 16 (by omega) (by omega)
  have e4 : wrap64 (1 + (k1 : Int)) = ((k1 + 1 : Nat) : Int) := by unfold wrap64; omega
  rw [e1, e4]
  obtain ⟨t, ht⟩ : ∃ t, k1 + 1 = t := ⟨_, rfl⟩
  rw [ht]
  have t1 : 1 ≤ t := by omega
  have t16 : t ≤ 16 := by omega
  clear e1 e4 h1 ht
  go_upto_region 8 with fail
  have b3 : Below W2.heap.size W2 (W2.alloc (.map #[] 0)) := (Below.refl _ _).alloc (Nat.le_refl _) _
  have hG3 : Gm (W2.alloc (.map #[] 0)) W2.heap.size W2.heap.size (takQ 0 2 [r] (fdO (ops.take 0))) := gm_new W2 W2.heap.size
  generalize W2.alloc (.map #[] 0) = W3 at *
  obtain ⟨y0, y1, y2, y3, y4, hw3⟩ := HX.out W3 (ab_trans hA2 b3)
  have hs2 : A.heap.size ≤ W2.heap.size := hA2.size
  have HB3 : Hid (∀ V, Below W2.heap.size W2 V → Bq V W1.heap.size K S) := fun V hV => hB2.keep hV
  clear hB2 hmm
  go_wp2_with fail
  go_loopw [53] (fun z wr => ∃ k : Nat, k ≤ n ∧ z = .int .i64 (k : Int) ∧ Gm wr W2.heap.size W2.heap.size (takQ 0 2 [r] (fdO (ops.take k))) ∧ Below W2.heap.size W2 wr) (fun z _ => n - (intOf z).toNat)
  case atStart => exact ⟨0, by omega, rfl, hG3, b3⟩
  case round =>
    clear y0 y1 y2 y3 y4 hw3 hG3 b3
    obtain ⟨k, hk, rfl, hG, hb⟩ := hrel
    by_cases ck : k < n
    · obtain ⟨o, ho⟩ : ∃ o, ops[k]? = some o := ⟨ops[k]'(by omega), List.getElem?_eq_getElem (by omega)⟩
      have hfo := HF.out o (List.mem_of_getElem? ho)
      obtain ⟨rfl, hgv⟩ := hp (by omega)
      have hHr := HX.out wr (ab_trans hA2 hb)
      obtain ⟨y0, y1, -, -, -, hw3⟩ := hHr
      have hki : (k : Int) < (n : Int) := by omega
      have hk1 : (k : Int) + 1 ≤ 151 := by omega
      have z0 := keep_cell hw3 (hrv k o ho 0 _ rfl) hgv
      have z1 := keep_cell hw3 (hrv k o ho 1 _ rfl) hgv
      have z2 := keep_cell hw3 (hrv k o ho 2 _ rfl) hgv
      have z3 := keep_cell hw3 (hrv k o ho 3 _ rfl) hgv
      have z4 := keep_cell hw3 (hrv k o ho 4 _ rfl) hgv
      rw [Nat.add_zero, show E5.k = 5 from rfl] at z0
      rw [show E5.k = 5 from rfl] at z1 z2 z3 z4
      have HSn : Hid (takQ 0 2 [r] (fdO (ops.take (k + 1))) = takQ 0 2 [r] (fdO (ops.take k)) ++ tokL 0 ⟨(k : Int) + 1, 1, o.t, o.y, o.v⟩ (idL o.t o.y 2 [r])) := HTs.out k o ho
      have hTl := HTl.out k
      generalize takQ 0 2 [r] (fdO (ops.take k)) = T at *
      obtain ⟨os, ok, ot, oy, ov⟩ := o
      have hft : J64 ot := hfo.t
      have hfy : J64 oy := hfo.y
      have hfv : J64 ov := hfo.v
      try dsimp only at z0 z1 z2 z3 z4 HSn
      clear ho hrv hp HTs HTl HTa HIs hfo
      have hwA : w.heap.size < wr.heap.size := by have := hb.size; omega
      go_upto_region 11 with (first
        | (refine al_blk rfl rfl (opA ⟨0, 0, 0, 0, 0⟩) (op_zero _) ?_; intro W6 e6 hX6 b6; clear e6)
        | (refine st_blk rfl rfl hX6 rfl (vs := opA ⟨os, ok, ot, oy, ov⟩) rfl (infoO5 ⟨os, ok, ot, oy, ov⟩) rfl (opA_one _) ?_; intro W7 hX7 C7))
      have b67 := ab_chg b6 C7 (Nat.le_refl _)
      clear z0 z1 z2 z3 z4 hX6 C7 b6 y0
      go_upto_region 12 with (first
        | (refine st_int rfl rfl hX7 (i := 0) rfl rfl rfl ?_; intro W8 hX8 C8)
        | (refine st_int rfl rfl hX8 (i := 1) rfl rfl rfl ?_; intro W9 hX9 C9))
      have hXo : Blk W9 wr.heap.size (opA ⟨(k : Int) + 1, 1, ot, oy, ov⟩) 35 := hX9
      have b9 := ab_chg (ab_chg b67 C8 (Nat.le_refl _)) C9 (Nat.le_refl _)
      have hG9 := hG.keep b9
      have hb9 := ab_trans hb b9
      have hwr9 : wr.heap.size ≤ W9.heap.size := b9.size
      obtain ⟨-, u1, -, -, -, hw9⟩ := HX.out W9 (ab_trans hA2 hb9)
      clear hX7 hX8 hX9 C8 C9 b67 b9 hG y1 hw3 hb
      have HI : Hid (∀ V : World, Calls Try.prog 6 #[opV ⟨(k : Int) + 1, 1, ot, oy, ov⟩, .slice (some ⟨V.heap.size, 0, none⟩) 1 1, .int .i64 2] (V.alloc (.cells #[.int .i64 r] 3)) fun e w' => ∃ v', e = .returned v' ∧ EO E3k 40 w' (V.alloc (.cells #[.int .i64 r] 3)).heap.size v' (idL ot oy 2 [r]) ∧ Below (V.alloc (.cells #[.int .i64 r] 3)).heap.size (V.alloc (.cells #[.int .i64 r] 3)) w') := fun V =>
        rids_is ⟨(k : Int) + 1, 1, ot, oy, ov⟩ _ [r] 2 _ (eo1_io (eo_single (E := E1) (x := r) (Blk.new V #[.int .i64 r] 3))).is ⟨by unfold J64; dsimp only; omega, by unfold J64; dsimp only; omega, hft, hfy, hfv⟩ (fun x hx => by rw [List.mem_singleton.1 hx]; exact hr.2) (by omega) (by simp)
      go_upto_region 13 with (first
        | (refine ld_blk rfl rfl hXo rfl _ Try.underlying35 rfl (infoO5 ⟨(k : Int) + 1, 1, ot, oy, ov⟩) ?_)
        | (go_at_call 6; refine (HI.out W9).mono ?_; rintro e W11 ⟨vi, rfl, hOi, b11⟩; obtain ⟨qi, ci, ei⟩ := hOi.form; rw [idL_len] at ei; subst ei))
      have b911 := ab_trans ((Below.refl W9.heap.size W9).alloc (Nat.le_refl _) (.cells #[.int .i64 r] 3)) b11
      have hG11 := hG9.keep b911
      have hX11 := hXo.keep b911
      have hb11 := ab_trans hb9 b911
      have hw911 : W9.heap.size ≤ W11.heap.size := b911.size
      obtain ⟨kk, hkk⟩ := List.length_eq_one_iff.1 (idL_len ot oy 2 [r])
      have hky : KyOk kk := (idL_mem (t := ot) (y := oy) (sh := 2) (res := [r]) (by omega) (by omega) (by simp) hft hfy (by rw [hkk]; exact List.mem_singleton.2 rfl)).1
      have HSn2 : Hid (takQ 0 2 [r] (fdO (ops.take (k + 1))) = T ++ [(kk, 0, ⟨(k : Int) + 1, 1, ot, oy, ov⟩)]) := by have := HSn.out; rw [hkk] at this; exact this
      rw [hkk] at hOi
      obtain ⟨ka, kb, kc⟩ := kk
      obtain ⟨qi', ci', gi, oi, hif, hic, him, hip, hir⟩ := hOi.er.at
      injection hif with hi1 _ hi3
      subst hi1
      subst hi3
      obtain ⟨rfl, hgi⟩ := hip (by show 0 < 1; omega)
      have i0 := hir 0 (ka, kb, kc) rfl 0 _ rfl
      have i1 := hir 0 (ka, kb, kc) rfl 1 _ rfl
      have i2 := hir 0 (ka, kb, kc) rfl 2 _ rfl
      rw [Nat.zero_mul, Nat.add_zero] at i0
      rw [Nat.zero_mul, Nat.add_zero] at i1 i2
      clear hG9 hXo hb9 HI HSn hkk hOi hir hip hic him u1 b11 hw9
      refine wp_loop_rounds 2 ?_
      rw [rounds_succ]
      go_upto_region 15 with (first
        | (refine al_blk rfl rfl #[.int .i64 0, .int .i64 0, .int .i64 0] (zero_id _) ?_; intro W12 e12 hI12 b12; clear e12)
        | (refine st_blk rfl rfl hI12 rfl (vs := #[.int .i64 ka, .int .i64 kb, .int .i64 kc]) rfl (info_id (ka, kb, kc)) rfl (by simp [Value.oneCell']) ?_; intro W13 hI13 C13))
      have b1113 := ab_chg b12 C13 (Nat.le_refl _)
      have hG13 := hG11.keep b1113
      have hX13 := hX11.keep b1113
      have hb13 := ab_trans hb11 b1113
      have hm13 : W2.heap.size < W13.heap.size := hG13.lt
      clear hG11 hX11 hb11 hI12 b12 C13 i0 i1 i2
      have HG13 : Hid (∀ V, Below W13.heap.size W13 V → Gm V W2.heap.size W2.heap.size T ∧ Below W2.heap.size W2 V) := fun V hV => ⟨hG13.keep hV, ab_trans hb13 hV⟩
      clear hG13 hb13
      have j0 : W13.cell? ⟨W11.heap.size, 0, none⟩ = some (.int .i64 ka) := hI13.at rfl
      have j1 : W13.cell? ⟨W11.heap.size, 1, none⟩ = some (.int .i64 kb) := hI13.at rfl
      have j2 : W13.cell? ⟨W11.heap.size, 2, none⟩ = some (.int .i64 kc) := hI13.at rfl
      clear hI13
      have hfl0 := flK_len T (ka, kb, kc)
      go_upto_region 16 with (first
        | (refine ld_blk rfl rfl hX13 rfl _ Try.underlying35 rfl (infoO5 ⟨(k : Int) + 1, 1, ot, oy, ov⟩) ?_; clear hX13)
        | (refine valPl rfl _ (bd_run rfl (built_smp1 ⟨(k : Int) + 1, 1, ot, oy, ov⟩) (by simp only [List.map_toArray, List.map_cons, List.map_nil]; rfl) _) ?_)
        | (refine bs_smp rfl rfl ((ka, kb, kc), (0 : Int), (⟨(k : Int) + 1, 1, ot, oy, ov⟩ : Op5)) (by simp only [List.map_toArray, List.map_cons, List.map_nil]; rfl) ?_; intro W14 hO14 b14; obtain ⟨hG14, hb14⟩ := HG13.out W14 b14)
        | (refine me_run rfl rfl rfl rfl hG14 hky (by omega) ?_; intro vm st om W15 hOm C15 hm15 hom hBk; have hsl : ER E6 W15 _ _ := (show EO E6 43 W15 _ _ _ from own_at hO14 (fun g hg => C15.other g (fun e => by have := (World.ownsRow.lt hO14 g hg).1; omega))).er)
        | (at_builtin; refine app_at (v := vm) (vx := .slice (some ⟨W13.heap.size, 0, none⟩) 1 1) rfl rfl rfl hOm rfl hsl (by omega) (by rw [C15.size]; exact Nat.le_of_lt hG14.lt) ?_; intro va W16 hO16 hg16 hl16; have HBk16 : Hid _ := back_ok hG14.isMap C15 hm15 hom hOm hg16)
        | (refine es_run (v := vm) (v' := va) (st := st) (o1 := om) (k := (ka, kb, kc)) rfl rfl rfl rfl rfl hBk (s := ((ka, kb, kc), (0 : Int), (⟨(k : Int) + 1, 1, ot, oy, ov⟩ : Op5))) rfl HBk16.out.1 HBk16.out.2 hO16 (hl16.imp id (fun h9 g hg => by rw [h9] at hg; injection hg with hg; have := C15.size; omega)) ?_; intro W17 hG17 C17))
      have b15 := ab_chg hb14 C15 (Nat.le_refl _)
      have b16 := b15.grown hg16 b15.size (fun g hg => (World.ownsRow.lt hOm g hg).1)
      have b17 := ab_chg b16 C17 (Nat.le_refl _)
      clear hG14 hb14 hO14 b14 C15 hm15 hom hBk hsl hOm hO16 hg16 hl16 HBk16 C17 b15 b16 HG13 j0 j1 j2 hky
      go_wp2_with fail
      rw [rounds_succ]
      go_wp2_with fail
      go_roundw
      case rel => exact ⟨k + 1, by omega, by go_num, by rw [HSn2.out]; exact hG17, b17⟩
      case measure => simp [intOf]; omega
    · have ekn : k = n := by omega
      subst ekn
      rw [HTa.out] at hG
      clear HTs HTl HIs hp hrv ck hk
      generalize takQ 0 2 [r] (fdO ops) = T at *
      have hJ0 := cvj_start HSt.out
      have hks := HSt.out.ks
      have hfew := HSt.out.few
      have hB2 := HB3.out W2 (Below.refl _ _)
      have hcl : J64 (flD mark r) ∧ J64 (-9223372036854775808) := ⟨HcJ.out, by unfold J64; omega⟩
      have HWn : Hid (((idsT T).filter fun x => pl x.2.1 x.2.2 (flD mark r) (-9223372036854775808) && !pl x.2.1 x.2.2 b0 b1).length = lft S (flD mark r, -9223372036854775808) 0) :=
        cv_want hB2.ok hJ0.two (idsT_nodup T) (base := (b0, b1)) (fun x => by rw [mem_idsT]; exact hks x) (flD mark r, -9223372036854775808)
      have hN150 : lft S (flD mark r, -9223372036854775808) 0 ≤ 150 := by
        have h1 := HWn.out
        have h2 := List.length_filter_le (fun x : Kyy => pl x.2.1 x.2.2 (flD mark r) (-9223372036854775808) && !pl x.2.1 x.2.2 b0 b1) (idsT T)
        have h3 := idsT_few T
        omega
      generalize hNN : lft S (flD mark r, -9223372036854775808) 0 = N at *
      have hN0 : 0 + lft S (flD mark r, -9223372036854775808) 0 = N := by omega
      clear hNN
      generalize flD mark r = cf at *
      clear HcJ HSt HTa
      obtain ⟨y0, y1, y2, y3, y4, hw3⟩ := HX.out wr (ab_trans hA2 hb)
      go_upto_region 19 with (first
        | (go_at_call 7; refine (HCl.out _).mono ?_; rintro e W5 ⟨rfl, b5⟩)
        | (refine al_blk rfl rfl #[.int .i64 0, .int .i64 0] (zero_plG _) ?_; intro W6 e6 hX6 b6; clear e6)
        | (refine st_blk rfl rfl hX6 rfl (vs := #[.int .i64 cf, .int .i64 (-9223372036854775808)]) rfl info_plc rfl (by simp [Value.oneCell']) ?_; intro W7 hX7 C7))
      have b7 := ab_trans b5 (ab_chg b6 C7 (Nat.le_refl _))
      have hM7 : GcM W2 W7 W1.heap.size K W5.heap.size (cf, -9223372036854775808) T S := ⟨HB3.out _ (ab_trans hb b7), hG.keep b7, hX7, frm_below (ab_trans hb b7), fun k hk => hB2.bks hk, Nat.le_trans hb.size b5.size, hB2.aged⟩
      have hW1A : A.heap.size ≤ W1.heap.size := hb1.size
      have hTf := hJ0.cv.ft
      clear hX6 hX7 b5 b6 C7 hb hG y0 y1 y2 y3 y4 hw3 HCl b7 HB3 hB2
      generalize W5.heap.size = bc at *
      generalize hb00 : W1.heap.size = b00 at *
      clear hb00
      go_wp2_with fail
      go_loopw [14, 88] (fun g z V => ∃ (j gg : Nat) (S' : Bsn), j ≤ 2 ∧ g = .int .i64 (gg : Int) ∧ z = .int .i64 (j : Int) ∧ GcM W2 V b00 K bc (cf, -9223372036854775808) T S' ∧ CvJ S' T (cf, -9223372036854775808) ∧ gg + lft S' (cf, -9223372036854775808) j = N) (fun _ z _ => 2 - (intOf z).toNat)
      case atStart => exact ⟨0, 0, S, by omega, rfl, rfl, hM7, hJ0, hN0⟩
      case round =>
        clear hM7 hJ0 hN0 hks
        obtain ⟨j, gg, S', hj, rfl, rfl, hM, hJ, hN⟩ := hrel
        by_cases cj : j = 2
        · have hjn : ¬ (j : Int) < 2 := by omega
          have hlf : lft S' (cf, -9223372036854775808) j = 0 := by rw [cj]; rfl
          clear cj hj
          rw [hlf, Nat.add_zero] at hN
          have HNg : Hid (gg = N) := hN
          clear hN
          have HB : Hid (∀ V, Below wr.heap.size wr V → Below A.heap.size A V ∧ V.cell? ⟨bc, 0, none⟩ = some (.int .i64 cf) ∧ V.cell? ⟨bc, 1, none⟩ = some (.int .i64 (-9223372036854775808))) := fun V hV => ⟨(hM.keep hV).below hA2 hW1A, (hM.keep hV).cb.at rfl, (hM.keep hV).cb.at rfl⟩
          obtain ⟨D, f, hown, hd⟩ := hM.gm
          have hmq : W2.heap.size ≠ wr.heap.size := by have := hM.gm.lt; omega
          clear hM hlf hJ
          go_wp2_with (at_range; refine wpList_range_own _ rfl _ 33 rfl 40 41 keyed16 Try.underlying33 hldV W2.heap.size (Maps.size D) D rfl hown ?_; intro w0 hrg0 hg0 hs0)
          try go_frame
          have hb0 : Below wr.heap.size wr w0 := (Below.refl _ _).grown hg0 (Nat.le_refl _) (fun r hr => by cases hr)
          have hst : remK (idsT T) (Maps.has D) (fun x => pl x.2.1 x.2.2 cf (-9223372036854775808) && !pl x.2.1 x.2.2 b0 b1) = N := by
            rw [remK_start (fun x hx => by
              obtain ⟨y, hy, e⟩ := mem_idsT.1 hx
              have hm : x ∈ T.map (·.1) := List.mem_map.2 ⟨y, hy, e⟩
              rw [hd.hs x (hd.ok x hm)]
              exact decide_eq_true hm)]
            exact HWn.out
          have hin0 : ∀ x, KyOk x → Maps.has D (kyL x) = true → x ∈ idsT T := fun x hx h => by
            rw [hd.hs x hx] at h
            obtain ⟨y, hy, e⟩ := List.mem_map.1 (of_decide_eq_true h)
            exact mem_idsT.2 ⟨y, hy, e⟩
          have HOk : Hid (∀ x ∈ idsT T, KyOk x) := fun x hx => by
            obtain ⟨y, hy, e⟩ := mem_idsT.1 hx
            exact hd.ok x (List.mem_map.2 ⟨y, hy, e⟩)
          clear hown hd hg0 hs0 HWn hTf hcl hfew
          generalize hnq : wr.heap.size = nq at *
          have HNq : Hid (wr.heap.size = nq) := hnq
          have HB' : Hid (∀ V, Below nq wr V → Below A.heap.size A V ∧ V.cell? ⟨bc, 0, none⟩ = some (.int .i64 cf) ∧ V.cell? ⟨bc, 1, none⟩ = some (.int .i64 (-9223372036854775808))) := HB.out
          clear HB
          have hb0' : Below nq wr w0 := hb0
          clear hb0
          go_loopw [23] (fun wt V => ∃ (left : Go.Lit → Bool) (cnt wn : Nat), wt = .int .i64 (wn : Int) ∧ V.ranges Try.prog 40 hldV W2.heap.size nq (Maps.size D) D left cnt ∧ wn + remK (idsT T) left (fun x => pl x.2.1 x.2.2 cf (-9223372036854775808) && !pl x.2.1 x.2.2 b0 b1) = N ∧ (∀ x, KyOk x → left (kyL x) = true → x ∈ idsT T) ∧ Below nq wr V) (fun _ V => V.rangeLeft W2.heap.size nq)
          case atStart => exact ⟨_, _, 0, rfl, hrg0, by omega, hin0, hb0'⟩
          case round =>
            clear hrg0 hst hin0 hb0' hnq
            obtain ⟨left, cnt, wn, rfl, hrg, hrem, hin, hb⟩ := hrel
            obtain ⟨hbA, c0, c1⟩ := HB'.out _ hb
            obtain ⟨-, -, -, y3, y4, hw3⟩ := HX.out _ hbA
            go_wp2_with (at_next; refine wpList_next_ranges _ rfl _ rfl 40 keyed16 hldV (fun x : { k : Kyy // KyOk k } => kyV x.1) id ky_inv2 held_inv W2.heap.size nq (Maps.size D) D left cnt rfl hrg ?_ ?_)
            · intro _ hl0
              rw [remK_end hl0, Nat.add_zero] at hrem
              have hgN := HNg.out
              obtain rfl : wn = gg := by omega
              have hge : ((wn : Int) == (wn : Int)) = true := by simp
              clear hrem hgN
              clear hrg hin y3 y4 c0 c1
              go_wp2_with fail
              go_ret
              exact ⟨rfl, hw3⟩
            · intro ka kb kc hk v kl yd yp w1 cnt1 hkey hlk hv hat hrg1 hlt hg1 hs1 hen
              obtain rfl : kl = kyL (ka, kb, kc) := by
                rw [key16 hk] at hkey
                exact (Option.some.inj hkey).symm
              have HRm : Hid (remK (idsT T) (fun z => left z && !z.sameKey (kyL (ka, kb, kc))) (fun x => pl x.2.1 x.2.2 cf (-9223372036854775808) && !pl x.2.1 x.2.2 b0 b1) + (if (ka, kb, kc) ∈ idsT T ∧ (pl kb kc cf (-9223372036854775808) && !pl kb kc b0 b1) = true then 1 else 0) = N - wn) := by
                have h1 := remK_step hk hlk (fun x => pl x.2.1 x.2.2 cf (-9223372036854775808) && !pl x.2.1 x.2.2 b0 b1) (idsT T) (idsT_nodup T) HOk.out
                dsimp only at h1
                show _ = _
                omega
              have HLe : Hid (wn ≤ N) := by show _ ≤ _; omega
              have hmem := hin _ hk hlk
              have hbn : Below nq _ w1 := hb.grown hg1 (by have := hb.size; have := HNq.out; omega) (fun r hr => by cases hr; exact Nat.le_refl _)
              have HM : Hid (w1.rangeLeft W2.heap.size nq < wr.rangeLeft W2.heap.size nq) := by show _ < _; rw [hrg1.left_eq, hrg.left_eq]; exact hlt
              have HIn : Hid (∀ x, KyOk x → (left (kyL x) && !(kyL x).sameKey (kyL (ka, kb, kc))) = true → x ∈ idsT T) := fun x hx h => hin x hx (by simp only [Bool.and_eq_true] at h; exact h.1)
              have HV : Hid (∀ V, Below w1.heap.size w1 V → V.ranges Try.prog 40 hldV W2.heap.size nq (Maps.size D) D (fun z => left z && !z.sameKey (kyL (ka, kb, kc))) cnt1 ∧ Below nq _ V ∧ V.cell? ⟨bc, 0, none⟩ = some (.int .i64 cf) ∧ V.cell? ⟨bc, 1, none⟩ = some (.int .i64 (-9223372036854775808)) ∧ V.cell? ⟨w.heap.size, 3, none⟩ = some (.int .i64 b0) ∧ V.cell? ⟨w.heap.size, 4, none⟩ = some (.int .i64 b1)) := fun V hV => by
                have hN : Below nq _ V := hbn.trans (hV.mono (by have := hbn.size; have := HNq.out; omega))
                obtain ⟨h1, h2, h3⟩ := HB'.out V hN
                obtain ⟨-, -, -, h4, h5, -⟩ := HX.out V h1
                exact ⟨ranges_keep hrg1 hV, hN, h2, h3, h4, h5⟩
              unfold kyV at hen
              try dsimp only at hen
              clear hrg hrg1 hin hb hbA c0 c1 y3 y4 hw3 hrem hkey hlk hv hat hlt hg1 hs1 hbn
              go_upto_region 47 with (first
                | (refine al_blk rfl rfl #[.int .i64 0, .int .i64 0, .int .i64 0] (zero_id _) ?_; intro Wd ed hId bd; clear ed)
                | (refine st_blk rfl rfl hId rfl (vs := #[.int .i64 ka, .int .i64 kb, .int .i64 kc]) rfl (info_id (ka, kb, kc)) rfl (by simp [Value.oneCell']) ?_; intro We hIe Ce))
              have b1e := ab_chg bd Ce (Nat.le_refl _)
              have HI : Hid (∀ V, Below We.heap.size We V → Blk V w1.heap.size #[.int .i64 ka, .int .i64 kb, .int .i64 kc] 40 ∧ Below w1.heap.size w1 V) := fun V hV => ⟨hIe.keep hV, ab_trans b1e hV⟩
              obtain ⟨-, -, c0, c1, y3, y4⟩ := HV.out We b1e
              have i1 : We.cell? ⟨w1.heap.size, 1, none⟩ = some (.int .i64 kb) := hIe.at rfl
              have i2 : We.cell? ⟨w1.heap.size, 2, none⟩ = some (.int .i64 kc) := hIe.at rfl
              clear hId bd Ce hIe b1e hen
              cases hp : pl kb kc cf (-9223372036854775808)
              · have HR2 : Hid (wn + remK (idsT T) (fun z => left z && !z.sameKey (kyL (ka, kb, kc))) (fun x => pl x.2.1 x.2.2 cf (-9223372036854775808) && !pl x.2.1 x.2.2 b0 b1) = N) := by
                  have h1 := HRm.out
                  rw [hp, if_neg (by simp)] at h1
                  have h2 := HLe.out
                  show _ = _
                  omega
                clear HRm
                go_wp2_with (go_at_call 11; refine (rpless_any kb kc cf (-9223372036854775808) _).mono ?_; rintro e Wf ⟨rfl, bf⟩; rw [hp])
                obtain ⟨hr, hn, -⟩ := HV.out Wf (HI.out Wf bf).2
                go_roundw
                case rel => exact ⟨_, _, wn, rfl, hr, HR2.out, HIn.out, hn⟩
                case measure => rw [hr.left_eq]; have h1 := (HV.out w1 (Below.refl _ _)).1.left_eq; have h2 := HM.out; omega
              · cases hq : pl kb kc b0 b1
                · have HR2 : Hid ((wn + 1) + remK (idsT T) (fun z => left z && !z.sameKey (kyL (ka, kb, kc))) (fun x => pl x.2.1 x.2.2 cf (-9223372036854775808) && !pl x.2.1 x.2.2 b0 b1) = N) := by
                    have h1 := HRm.out
                    rw [hp, hq, if_pos ⟨hmem, rfl⟩] at h1
                    have h2 := HLe.out
                    show _ = _
                    omega
                  have hwn : wn + 1 ≤ 1000 := by have := HR2.out; omega
                  clear HRm
                  go_wp2_with (first
                    | (have mk := bf; clear mk; go_at_call 11; refine (less_b hq _).mono ?_; rintro e Wg ⟨rfl, bg⟩)
                    | (go_at_call 11; refine (less_b hp _).mono ?_; rintro e Wf ⟨rfl, bf⟩; clear c0 c1 y3 y4 i1 i2; obtain ⟨hIf, hbf⟩ := HI.out Wf bf; obtain ⟨-, -, -, -, y3, y4⟩ := HV.out Wf hbf; have i1 : Wf.cell? ⟨w1.heap.size, 1, none⟩ = some (.int .i64 kb) := hIf.at rfl; have i2 : Wf.cell? ⟨w1.heap.size, 2, none⟩ = some (.int .i64 kc) := hIf.at rfl))
                  obtain ⟨hr, hn, -⟩ := HV.out Wg (HI.out Wg (ab_trans bf bg)).2
                  go_roundw
                  case rel => exact ⟨_, _, wn + 1, by go_num, hr, HR2.out, HIn.out, hn⟩
                  case measure => rw [hr.left_eq]; have h1 := (HV.out w1 (Below.refl _ _)).1.left_eq; have h2 := HM.out; omega
                · have HR2 : Hid (wn + remK (idsT T) (fun z => left z && !z.sameKey (kyL (ka, kb, kc))) (fun x => pl x.2.1 x.2.2 cf (-9223372036854775808) && !pl x.2.1 x.2.2 b0 b1) = N) := by
                    have h1 := HRm.out
                    rw [hp, hq, if_neg (by simp)] at h1
                    have h2 := HLe.out
                    show _ = _
                    omega
                  clear HRm
                  go_wp2_with (first
                    | (have mk := bf; clear mk; go_at_call 11; refine (less_b hq _).mono ?_; rintro e Wg ⟨rfl, bg⟩)
                    | (go_at_call 11; refine (less_b hp _).mono ?_; rintro e Wf ⟨rfl, bf⟩; clear c0 c1 y3 y4 i1 i2; obtain ⟨hIf, hbf⟩ := HI.out Wf bf; obtain ⟨-, -, -, -, y3, y4⟩ := HV.out Wf hbf; have i1 : Wf.cell? ⟨w1.heap.size, 1, none⟩ = some (.int .i64 kb) := hIf.at rfl; have i2 : Wf.cell? ⟨w1.heap.size, 2, none⟩ = some (.int .i64 kc) := hIf.at rfl))
                  obtain ⟨hr, hn, -⟩ := HV.out Wg (HI.out Wg (ab_trans bf bg)).2
                  go_roundw
                  case rel => exact ⟨_, _, wn, rfl, hr, HR2.out, HIn.out, hn⟩
                  case measure => rw [hr.left_eq]; have h1 := (HV.out w1 (Below.refl _ _)).1.left_eq; have h2 := HM.out; omega
        · have hj2 : j < 2 := by omega
          obtain ⟨c, hc⟩ : ∃ c, S'.ba[j]? = some c := ⟨_, List.getElem?_eq_getElem (by rw [hJ.two]; exact hj2)⟩
          have hjs : (j : Int) < 2 := by omega
          have HBa := bbase_at j c wr hM.bq hc
          have HM : Hid (∀ V, Below wr.heap.size wr V → GcM W2 V b00 K bc (cf, -9223372036854775808) T S') := fun V hV => hM.keep hV
          have hMs := hM.size
          have hMc := hM.cb.lt
          clear hM
          go_upto_region 24 with (first
            | (go_at_call 8; refine HBa.mono ?_; rintro e W8 ⟨rfl, b8⟩)
            | (refine al_blk rfl rfl #[.int .i64 0, .int .i64 0] (zero_plG _) ?_; intro W9 e9 hX9 b9; clear e9)
            | (refine st_blk rfl rfl hX9 rfl (vs := #[.int .i64 c.1, .int .i64 c.2]) rfl info_plc rfl (by simp [Value.oneCell']) ?_; intro W10 hX10 C10))
          have hM10 := HM.out W10 (ab_trans b8 (ab_chg b9 C10 (Nat.le_refl _)))
          have hba : W2.heap.size ≤ W8.heap.size := Nat.le_trans hMs b8.size
          have hbc : W8.heap.size ≠ bc := by have := b8.size; omega
          clear hX9 C10 b9 HM HBa hMs hMc
          generalize W8.heap.size = ba at *
          go_wp2_with fail
          go_loopw [14, 17] (fun g kv V => ∃ (k gg : Nat) (S1 : Bsn) (c : Int × Int), g = .int .i64 (gg : Int) ∧ kv = .int .i64 (k : Int) ∧ GcM W2 V b00 K bc (cf, -9223372036854775808) T S1 ∧ Blk V ba #[.int .i64 c.1, .int .i64 c.2] 24 ∧ S1.ba[j]? = some c ∧ CvJ S1 T (cf, -9223372036854775808) ∧ k + cvM S1 (cf, -9223372036854775808) j c ≤ 151 ∧ gg + lft S1 (cf, -9223372036854775808) j = N) (fun _ kv _ => 152 - (intOf kv).toNat)
          case atStart => exact ⟨0, gg, S', c, rfl, rfl, hM10, hX10, hc, hJ, by have h1 := lft_one (S := S') (cl := (cf, -9223372036854775808)) hj2; unfold cvM; split <;> omega, hN⟩
          case round =>
            clear hM10 hX10 hc hJ hN b8
            obtain ⟨k, gg, S1, c, rfl, rfl, hM, hA, hc, hJ, hk, hN⟩ := hrel
            have hgI := gnI_eq hJ hj2 hc t1 t16
            have HNx := gnext_any 1 j t wr hM.bq
            have HM : Hid (∀ V, Below wr.heap.size wr V → GcM W2 V b00 K bc (cf, -9223372036854775808) T S1 ∧ Blk V ba #[.int .i64 c.1, .int .i64 c.2] 24) := fun V hV => ⟨hM.keep hV, hA.keep hV⟩
            have hok := hM.bq.ok
            clear hM hA
            cases hI : gnI S1 1 (j : Int) (t : Int)
            · have hX0 : gnX S1 1 j t = zBt := by unfold gnX; rw [hI]; rfl
              have hpl : pl c.1 c.2 cf (-9223372036854775808) = false := hgI.symm.trans hI
              have h0 := cv_end (cl := (cf, -9223372036854775808)) hJ.np hc hpl
              rw [hX0, hI] at HNx
              clear hX0 hI hgI
              go_upto_region 27 with (first
                | (go_at_call 9; refine HNx.mono ?_; rintro e W11 ⟨⟨v11, e11, hO11⟩, b11⟩; obtain ⟨q11, c11, f11⟩ := hO11.form; have f12 : v11 = .slice q11 0 c11 := f11; clear f11; subst f12; subst e11)
                | (refine al_blk rfl rfl (btA zBt (.slice none 0 0)) (zero_bt _) ?_; intro W12 e12 hX12 b12; clear e12)
                | (refine st_blk rfl rfl hX12 rfl (vs := #[.int .i64 0, .int .i64 0, .int .i64 0, .int .i64 0, .int .i64 0, .int .i64 0, .slice q11 0 c11]) rfl (info_bt zBt q11 0 c11) rfl (bt_one zBt q11 0 c11) ?_; intro W13 hX13 C13))
              have hbw := ab_trans b11 (ab_chg b12 C13 (Nat.le_refl _))
              obtain ⟨hMw, hAw⟩ := HM.out _ hbw
              have a0 : W13.cell? ⟨ba, 0, none⟩ = some (.int .i64 c.1) := hAw.at rfl
              have a1 : W13.cell? ⟨ba, 1, none⟩ = some (.int .i64 c.2) := hAw.at rfl
              have d0 : W13.cell? ⟨bc, 0, none⟩ = some (.int .i64 cf) := hMw.cb.at rfl
              have d1 : W13.cell? ⟨bc, 1, none⟩ = some (.int .i64 (-9223372036854775808)) := hMw.cb.at rfl
              clear hMw hAw hX12 hX13 C13 b12 b11 hO11 HNx
              go_upto_region 40 with fail
              go_wp2_with (go_at_call 11; refine (rpless_any c.1 c.2 cf (-9223372036854775808) _).mono ?_; rintro e W14 ⟨rfl, b14⟩; rw [hpl])
              go_roundw
              case rel => exact ⟨j + 1, gg, S1, by omega, rfl, by go_num, (HM.out _ (ab_trans hbw b14)).1, hJ, by rw [lft_end hj2 h0]; exact hN⟩
              case measure => simp [intOf]; omega
            · have hpl : pl c.1 c.2 cf (-9223372036854775808) = true := hgI.symm.trans hI
              obtain ⟨hB, hJ2, hc2, hoth, hms, -⟩ := cv_next hok hJ hj2 hc t1 t16 hpl hcl
              have hX1 : gnX S1 1 j t = gnB S1 1 j t := by unfold gnX; rw [hI, if_pos rfl]
              rw [hX1, hI] at HNx
              have HRz := fun (V : World) (hV : Bq V b00 K S1) => baraise_ok j (gnB S1 1 j t).tt V hV (by rw [hJ.two]; exact hj2) hB.J
              have hN2 := lft_step hj2 hB.cnt hoth
              have HEn : Hid (∀ (i : Nat) (e : Ent), (gnB S1 1 j t).en[i]? = some e → KyOk ((j : Int), e.1) ∧ eqC e.2 (JL (smK T ((j : Int), e.1))) = true) := fun i e he => ⟨(hok.kk _ (hB.en i e he).1).1, (eqC_iff _ _).2 (hB.en i e he).2⟩
              have hk1 : k + 1 + cvM (drpB (lifB S1 j (gnB S1 1 j t).tt)) (cf, -9223372036854775808) j (gnB S1 1 j t).tt ≤ 151 := by omega
              clear hX1 hI hgI hoth hms hok hpl hc hk
              generalize drpB (lifB S1 j (gnB S1 1 j t).tt) = S2 at *
              generalize gnB S1 1 j t = X at *
              obtain ⟨hck, hfr, hup, hle, hfw, -, -, -, -⟩ := hB
              obtain ⟨ep, ln, ⟨f0, f1⟩, ⟨u0, u1⟩, L⟩ := X
              try dsimp only at hfr hup hle hfw HEn HRz hN2 hk1 HNx hc2
              subst hfr
              have HCk : ∀ V v, ER EE V v L → Calls Try.prog 10 #[.agg #[.int .i64 ep, .int .i64 ln, .int .i64 f0, .int .i64 f1, .int .i64 u0, .int .i64 u1, v]] V fun e w' => e = .returned .nilIface ∧ Below V.heap.size V w' := fun V v hv => (gcheck_any ⟨ep, ln, (f0, f1), (u0, u1), L⟩ v V hv).mono (fun e w' ⟨h1, h2⟩ => ⟨by rcases h1 with ⟨_, h⟩ | ⟨h, _⟩; exact h; exact absurd hck h, h2⟩)
              have HL1 : ∀ V : World, Calls Try.prog 11 #[Plc f0 f1, Plc u0 u1] V fun e w' => e = .returned (.bool true) ∧ Below V.heap.size V w' := fun V => by have := rpless_any f0 f1 u0 u1 V; rw [hup] at this; exact this
              have HL2 : ∀ V : World, Calls Try.prog 11 #[Plc cf (-9223372036854775808), Plc u0 u1] V fun e w' => e = .returned (.bool false) ∧ Below V.heap.size V w' := fun V => by have := rpless_any cf (-9223372036854775808) u0 u1 V; rw [hle] at this; exact this
              have hef : (f0 == f0) = true := by simp
              have heg : (f1 == f1) = true := by simp
              have hk200 : ¬ (200 : Int) < (k : Int) := by omega
              have Hne := ne00r
              have hkd : decide ((200 : Int) < (k : Int)) = false := decide_eq_false hk200
              generalize hnL : L.length = nL at *
              have hnt : ¬ (t : Int) < (nL : Int) := by omega
              have hntd : decide ((t : Int) < (nL : Int)) = false := decide_eq_false hnt
              clear hck hup hle
              go_upto_region 28 with (first
                | (go_at_call 9; refine HNx.mono ?_; rintro e W11 ⟨⟨v11, e11, hO11⟩, b11⟩; obtain ⟨q11, c11, f11⟩ := hO11.form; dsimp only at f11; rw [hnL] at f11; subst f11; subst e11)
                | (refine al_blk rfl rfl (btA zBt (.slice none 0 0)) (zero_bt _) ?_; intro W12 e12 hX12 b12; clear e12)
                | (refine st_blk rfl rfl hX12 rfl (vs := #[.int .i64 ep, .int .i64 ln, .int .i64 f0, .int .i64 f1, .int .i64 u0, .int .i64 u1, .slice q11 nL c11]) rfl (info_bt zBt q11 nL c11) rfl (bt_one ⟨ep, ln, (f0, f1), (u0, u1), []⟩ q11 nL c11) ?_; intro W13 hX13 C13))
              have b1113 := ab_chg b12 C13 (Nat.le_refl _)
              have hbw := ab_trans b11 b1113
              have hO13 := hO11.keep b1113
              try dsimp only at hO13
              have HY : Hid (∀ V, Below W13.heap.size W13 V → GcM W2 V b00 K bc (cf, -9223372036854775808) T S1 ∧ Blk V ba #[.int .i64 f0, .int .i64 f1] 24 ∧ Blk V W11.heap.size #[.int .i64 ep, .int .i64 ln, .int .i64 f0, .int .i64 f1, .int .i64 u0, .int .i64 u1, .slice q11 nL c11] 48 ∧ ER EE V (.slice q11 nL c11) L) := fun V hV => ⟨(HM.out V (ab_trans hbw hV)).1, (HM.out V (ab_trans hbw hV)).2, hX13.keep hV, (hO13.keep hV).er⟩
              clear hX12 hX13 C13 b12 b11 hO11 HNx HM hO13 b1113 hbw
              generalize W11.heap.size = bb at *
              have HZ : Hid (∀ V, Below W13.heap.size W13 V → V.cell? ⟨ba, 0, none⟩ = some (.int .i64 f0) ∧ V.cell? ⟨ba, 1, none⟩ = some (.int .i64 f1) ∧ V.cell? ⟨bc, 0, none⟩ = some (.int .i64 cf) ∧ V.cell? ⟨bc, 1, none⟩ = some (.int .i64 (-9223372036854775808)) ∧ V.cell? ⟨bb, 2, none⟩ = some (.int .i64 f0) ∧ V.cell? ⟨bb, 3, none⟩ = some (.int .i64 f1) ∧ V.cell? ⟨bb, 4, none⟩ = some (.int .i64 u0) ∧ V.cell? ⟨bb, 5, none⟩ = some (.int .i64 u1) ∧ V.cell? ⟨bb, 6, none⟩ = some (.slice q11 nL c11)) := fun V hV => by
                obtain ⟨h1, h2, h3, -⟩ := HY.out V hV
                exact ⟨h2.at rfl, h2.at rfl, h1.cb.at rfl, h1.cb.at rfl, h3.at rfl, h3.at rfl, h3.at rfl, h3.at rfl, h3.at rfl⟩
              obtain ⟨-, -, hXb, hEb⟩ := HY.out W13 (Below.refl _ _)
              go_upto_region 30 with (first
                | (go_big_want; refine lw_btW _ rfl rfl rfl hXb (info_bt zBt q11 nL c11) ?_; refine ‹∀ (a : Act) (w : World), wpList _ _ _ _ a w → _› _ _ ?_)
                | (go_at_call 10; refine (HCk _ _ hEb).mono ?_; rintro e W14 ⟨rfl, b14⟩; obtain ⟨z0, z1, z2, z3, z4, z5, z6, z7, z8⟩ := HZ.out W14 b14)
                | (have mk := b15'; clear mk; go_at_call 11; refine (HL2 _).mono ?_; rintro e W16 ⟨rfl, b16⟩; clear z0 z1 z2 z3 z4 z5 z6 z7 z8; have b16' := ab_trans b15' b16; obtain ⟨z0, z1, z2, z3, z4, z5, z6, z7, z8⟩ := HZ.out W16 b16')
                | (go_at_call 11; refine (HL1 _).mono ?_; rintro e W15 ⟨rfl, b15⟩; clear z0 z1 z2 z3 z4 z5 z6 z7 z8; have b15' := ab_trans b14 b15; obtain ⟨z0, z1, z2, z3, z4, z5, z6, z7, z8⟩ := HZ.out W15 b15'))
              clear hXb hEb HCk HL1 HL2 hef heg hk200 Hne
              have hntn : decide (t < nL) = false := decide_eq_false (by omega)
              simp only [hntn]
              go_wp2_with fail
              go_loopw [14, 141] (fun g z V => ∃ i : Nat, i ≤ nL ∧ g = .int .i64 ((gg + i : Nat) : Int) ∧ z = .int .i64 (i : Int) ∧ Below W13.heap.size W13 V) (fun _ z _ => nL - (intOf z).toNat)
              case atStart => exact ⟨0, by omega, rfl, rfl, b16'⟩
              case round =>
                clear z8 b16'
                obtain ⟨i, hi, rfl, rfl, hV⟩ := hrel
                by_cases ci : i = nL
                · obtain ⟨z0, z1, z2, z3, z4, z5, z6, z7, z8⟩ := HZ.out wr hV
                  obtain ⟨hMv, hAv, -, -⟩ := HY.out wr hV
                  clear z0 z1 z2 z3 z4 z5 z8 HEn
                  have hii : ¬ (i : Int) < (nL : Int) := by omega
                  go_upto_region 39 with (refine st_blk rfl rfl hAv rfl (vs := #[.int .i64 u0, .int .i64 u1]) rfl info_plc rfl (by simp [Value.oneCell']) ?_; intro W17 hA17 C17)
                  have hM17 := hMv.put hAv hba hbc C17
                  have p0 : W17.cell? ⟨ba, 0, none⟩ = some (.int .i64 u0) := hA17.at rfl
                  have p1 : W17.cell? ⟨ba, 1, none⟩ = some (.int .i64 u1) := hA17.at rfl
                  have HM17 : Hid (GcM W2 W17 b00 K bc (cf, -9223372036854775808) T S1 ∧ Blk W17 ba #[.int .i64 u0, .int .i64 u1] 24) := ⟨hM17, hA17⟩
                  have hq17 := hM17.bq
                  clear hMv hAv z6 z7 hM17 hA17 C17 HY HZ hV
                  go_wp2_with (go_at_call 13; refine (HRz _ hq17).mono ?_; rintro e W18 ⟨rfl, hB18, hF18⟩)
                  go_roundw
                  case rel => exact ⟨k + 1, gg + i, S2, (u0, u1), (by first | rfl | go_num | (congr 1; omega)), by go_num, HM17.out.1.rai hB18 hF18, HM17.out.2.frm hF18 (fun hx => by have := (HM17.out.1.kx _ hx).2; omega), hc2, hJ2, hk1, by omega⟩
                  case measure => simp [intOf]; omega
                · obtain ⟨x, hx⟩ : ∃ x, L[i]? = some x := ⟨L[i]'(by omega), List.getElem?_eq_getElem (by omega)⟩
                  have hii : (i : Int) < (nL : Int) := by omega
                  obtain ⟨hMv, -, -, hEv⟩ := HY.out wr hV
                  obtain ⟨gw, ow, eqw, hgw, hrw⟩ := er_range hEv (by omega)
                  have hr0 := hrw i x hx
                  obtain ⟨hky, heq⟩ := HEn.out i x hx
                  obtain ⟨vl, hOl, hlk⟩ := hMv.gm.look2 hky
                  have HOf : Hid (∀ V, Below wr.heap.size wr V → Calls Try.prog 12 #[vl] V fun e w' => e = .returned (.agg (CA (JL (smK T ((j : Int), x.1))))) ∧ Below V.heap.size V w') := fun V hV => gc_of (hOl.keep hV) hTf hfew
                  have HLk : Hid (∀ V, Below wr.heap.size wr V → (Instr.lookup 33 (.map (some W2.heap.size)) (kyV ((j : Int), x.1)) false).run Try.prog V = .ok vl V) := hlk
                  clear hrw hx hMv hEv hlk hOl hky
                  subst eqw
                  go_upto_region 33 with (first
                    | (refine ld_EE rfl rfl hr0 rfl ?_)
                    | (refine al_ent rfl rfl ?_; intro Wb eb hXb bb'; clear eb)
                    | (refine st_EE rfl rfl hXb rfl rfl ?_; intro Wc hXc Cc; go_frame))
                  have bwc : Below wr.heap.size wr Wc := ab_chg bb' Cc (Nat.le_refl _)
                  have x0 : Wc.cell? ⟨wr.heap.size, 0, none⟩ = some (.int .i64 x.1.1) := hXc.at rfl
                  have x1 : Wc.cell? ⟨wr.heap.size, 1, none⟩ = some (.int .i64 x.1.2) := hXc.at rfl
                  have HXc : Hid (Blk Wc wr.heap.size (entA x) 63) := hXc
                  clear hXb bb' Cc hXc hr0
                  obtain ⟨⟨xa, xb⟩, xc⟩ := x
                  try dsimp only at x0 x1 heq HOf HLk
                  go_upto_region 34 with (first
                    | (refine valPl rfl _ (bd_run rfl (built_id (j : Int) xa xb) (by simp only [List.map_toArray, List.map_cons, List.map_nil]; rfl) _) ?_)
                    | (refine al_blk rfl rfl #[.int .i64 0, .int .i64 0, .int .i64 0] (zero_id _) ?_; intro Wd ed hId bd; clear ed)
                    | (refine st_blk rfl rfl hId rfl (vs := #[.int .i64 (j : Int), .int .i64 xa, .int .i64 xb]) rfl (info_id ((j : Int), (xa, xb))) rfl (by simp [Value.oneCell']) ?_; intro We hIe Ce))
                  have bce := ab_chg bd Ce (Nat.le_refl _)
                  have HD : Hid (∀ V, Below We.heap.size We V → V.rangeAt wr.heap.size 2 (CA xc).toList ∧ Blk V Wc.heap.size #[.int .i64 (j : Int), .int .i64 xa, .int .i64 xb] 40 ∧ Below wr.heap.size wr V) := fun V hV => ⟨ent_range ((HXc.out.keep bce).keep hV), hIe.keep hV, ab_trans (ab_trans bwc bce) hV⟩
                  clear x0 x1 HXc hId bd Ce bce hIe bwc
                  refine wp_region_held_drew (S := fun w' => Below We.heap.size We w') (by kernel_rfl) (ab_drew (Below.refl _ _)) (fun hHeld => ?_)
                  refine takeH (i := 0) (some 149) rfl rfl (by kernel_rfl) (by kernel_rfl) (by kernel_rfl) (fun _ _ _ h => h) (by rfl) (fun w hSw => by (try dsimp only at hSw); go_simp; try rfl) hHeld ?_
                  go_frame
                  refine takeH (i := 1) (some 150) rfl rfl (by kernel_rfl) (by kernel_rfl) (by kernel_rfl) (fun _ _ _ h => h) (by rfl) (fun w hSw => by (try dsimp only at hSw); exact ldm_oper rfl rfl (HD.out _ hSw).1) hHeld ?_
                  go_frame
                  refine takeH (i := 2) (some 151) rfl rfl (by kernel_rfl) (by kernel_rfl) (by kernel_rfl) (fun _ _ _ h => h) (by rfl) (fun w hSw => by (try dsimp only at hSw); go_simp; try rfl) hHeld ?_
                  go_frame
                  refine takeH (i := 3) (some 152) rfl rfl (by kernel_rfl) (by kernel_rfl) (by kernel_rfl) (fun _ _ _ h => h) (by rfl) (fun w hSw => by (try dsimp only at hSw); (have qb := (HD.out _ hSw).2.1; have q0 := qb.at (i := 0) rfl; have q1 := qb.at (i := 1) rfl; have q2 := qb.at (i := 2) rfl; go_simp; try rfl)) hHeld ?_
                  go_frame
                  refine takeH (i := 4) (some 153) rfl rfl (by kernel_rfl) (by kernel_rfl) (by kernel_rfl) (fun _ _ _ h => h) (by rfl) (fun w hSw => by (try dsimp only at hSw); exact lkG rfl rfl rfl (HLk.out _ (HD.out _ hSw).2.2)) hHeld ?_
                  go_frame
                  refine wpAnyH_ready (rs := [5]) (by kernel_rfl) (by simp) (AllReadyH.cons rfl (fun K hK => ?_) AllReadyH.nil)
                  go_simp
                  refine (HOf.out _ (HD.out _ hHeld).2.2).mono ?_
                  rintro e Wf ⟨rfl, bf⟩
                  show K _ _
                  refine hK.out _ _ (ab_trans hHeld bf) (fun hHeld => ?_)
                  clear hK K
                  refine takeH (i := 6) (some 155) rfl rfl (by kernel_rfl) (by kernel_rfl) (by kernel_rfl) (fun _ _ _ h => h) (by rfl) (fun w hSw => by (try dsimp only at hSw); exact cneq17 rfl rfl rfl heq _) hHeld ?_
                  go_frame
                  refine wpAnyH_done (by kernel_rfl) ?_ _
                  have hVe := ab_trans hV (HD.out _ hHeld).2.2
                  clear HD HLk HOf heq hHeld
                  go_wp2_with fail
                  go_roundw
                  case rel => exact ⟨i + 1, by omega, by go_num, by go_num, hVe⟩
                  case measure => simp [intOf]; omega
theorem walk {W : World} (v : Value) (l : List Op5) (hS : ER E5 W v l) (hB : ∀ p ∈ l, Fit5 p) (r : Int) (hr : -9223372036854775808 ≤ r ∧ r ≤ 9223372036854775807) (mark : Int) (hm : -9223372036854775808 ≤ mark ∧ mark ≤ 9223372036854775807) (b0 : Int) (h0 : -9223372036854775808 ≤ b0 ∧ b0 ≤ 9223372036854775807) (b1 : Int) (h1 : -9223372036854775808 ≤ b1 ∧ b1 ≤ 9223372036854775807) (most : Int) (hl : -9223372036854775808 ≤ most ∧ most ≤ 9223372036854775807) :
    Calls Try.prog 3 #[.agg #[v, .int .i64 r, .int .i64 mark, .int .i64 b0, .int .i64 b1], .int .i64 most] W fun e w' => e = .returned (.bool true) ∧ Below W.heap.size W w' := by
  by_cases c : r < 1 ∨ 150 < l.length
  · exact gc_out v l r mark b0 b1 most W hS c
  · exact gc_in v l r mark b0 b1 most W hS hB ⟨by omega, hr.2⟩ (by unfold J64; omega) ⟨by unfold J64; omega, by unfold J64; omega⟩ (by omega)

theorem own : ownKnob Try.prog.godebug = none := by kernel_rfl
theorem laidOut : laidOutB Try.prog = true := by kernel_rfl

set_option maxRecDepth 100000 in
theorem lifted (os : Os) (started : os.Started) (H : Type) (enc : TypeId × Value → H) :
    ReturnsInHanded {} Try.checked os 3 .any (Rows.gateCoversSpec.pre6 enc Try.prog Try.f3 Rows.gateCoversRow.domain false) (Rows.gateCoversSpec.post enc Try.prog Try.f3 false true false false) := by
  refine returnsInHanded_of_change (C := Try.checked) own started (by kernel_rfl) Try.func3
    (ChangeSpec.witness6 (enc := enc) (C := Try.checked) false ⟨#[], #[.agg #[.slice none 0 0, .int .i64 0, .int .i64 0, .int .i64 0, .int .i64 0], .int .i64 0], []⟩ 8 (by kernel_rfl) (by kernel_rfl) (by kernel_rfl) (by kernel_rfl)) ?_
  intro W base args ds gs before hval0 hW hcnd _
  have hval : ∀ (j : Nat) t v, Try.f3.params[j]? = some t → args[j]? = some v → Value.okWide Try.prog W .any base t v := hval0
  have hW' := hW
  obtain ⟨p, q, hA0, hV, rfl, hfz, hnd⟩ := hW
  have hA : DataW.TrodAll enc Try.prog W 0 (fun _ => true) true Try.f3.params.toList args.toList ds p := hA0
  rw [Try.params3] at hA hval
  obtain ⟨v0, vs0, d0, ds0, p0, q0, hargs, rfl, rfl, h0, r0⟩ := trodAll_cons hA
  obtain ⟨v1, vs1, d1, ds1, p1, q1, rfl, rfl, rfl, h1, r1⟩ := trodAll_cons r0
  obtain ⟨rfl, rfl, rfl⟩ := trodAll_nil r1
  obtain rfl : args = #[v0, v1] := by cases args; simp_all
  obtain ⟨rfl, rfl⟩ := trodVars_none hV
  have k0 := h0
  have lt0 : ∀ x ∈ p0, x.block < W.heap.size := by obtain ⟨m, hm⟩ := k0; exact DataW.trod_lt m _ _ _ hm
  have k1 := h1
  have lt1 : ∀ x ∈ p1, x.block < W.heap.size := by obtain ⟨m, hm⟩ := k1; exact DataW.trod_lt m _ _ _ hm
  obtain ⟨cs0, rfl, hz0, fm0, hx0⟩ := open_struct (n := 5) Try.underlying26 (by kernel_rfl) (hval 0 26 v0 rfl rfl) h0
  obtain ⟨e0_0, e0_1, e0_2, e0_3, e0_4, rfl⟩ : ∃ e0_0 e0_1 e0_2 e0_3 e0_4, cs0 = #[e0_0, e0_1, e0_2, e0_3, e0_4] := by
    refine ⟨cs0[0], cs0[1], cs0[2], cs0[3], cs0[4], ?_⟩
    apply Array.ext
    · simpa using hz0
    · intro i h1 h2
      have : i = 0 ∨ i = 1 ∨ i = 2 ∨ i = 3 ∨ i = 4 := by omega
      rcases this with rfl | rfl | rfl | rfl | rfl <;> rfl
  obtain ⟨fy0_0, fg0_0⟩ := hx0 0 _ rfl
  obtain ⟨sq0_0, sg0_0, so0_0, sn0_0, sk0_0, sl0_0, ee0_0, hl0_0, hk0_0, hm0_0, hp0_0, hg0_0, hc0_0⟩ := rows_of (n := 5) (D := 8) (fun _ => .i64) Try.underlying22 (by kernel_rfl) (by omega) (kinds_of (by kernel_rfl)) fg0_0
  obtain rfl : e0_0 = .slice sq0_0 sn0_0 sk0_0 := by have h9 : [e0_0] = [Value.slice sq0_0 sn0_0 sk0_0] := ee0_0; simpa using h9
  obtain ⟨S0_0_, B0_0_⟩ := er_rows5 hl0_0 hk0_0 hm0_0 hp0_0 hg0_0 hc0_0
  obtain ⟨fy0_1, fg0_1⟩ := hx0 1 _ rfl
  obtain ⟨a0_1, ea0_1, w0_1⟩ := flat_cell 8 _ 3 _ _ 0 .i64 fg0_1 (by kernel_rfl)
  obtain rfl : e0_1 = .int .i64 a0_1 := by have h9 : ([e0_1] : List Value)[0]? = some (Value.int .i64 a0_1) := ea0_1; simpa using h9
  obtain ⟨fy0_2, fg0_2⟩ := hx0 2 _ rfl
  obtain ⟨a0_2, ea0_2, w0_2⟩ := flat_cell 8 _ 3 _ _ 0 .i64 fg0_2 (by kernel_rfl)
  obtain rfl : e0_2 = .int .i64 a0_2 := by have h9 : ([e0_2] : List Value)[0]? = some (Value.int .i64 a0_2) := ea0_2; simpa using h9
  obtain ⟨fy0_3, fg0_3⟩ := hx0 3 _ rfl
  obtain ⟨a0_3, ea0_3, w0_3⟩ := flat_cell 8 _ 24 _ _ 0 .i64 fg0_3 (by kernel_rfl)
  obtain rfl : e0_3 = .int .i64 a0_3 := by have h9 : ([e0_3, e0_4] : List Value)[0]? = some (Value.int .i64 a0_3) := ea0_3; simpa using h9
  obtain ⟨a0_4, ea0_4, w0_4⟩ := flat_cell 8 _ 24 _ _ 1 .i64 fg0_3 (by kernel_rfl)
  obtain rfl : e0_4 = .int .i64 a0_4 := by have h9 : ([.int .i64 a0_3, e0_4] : List Value)[1]? = some (Value.int .i64 a0_4) := ea0_4; simpa using h9
  obtain ⟨a1, rfl, rfl, rfl, w1⟩ := open_int Try.underlying3 (hval 1 3 v1 rfl rfl) h1
  clear hA0 hval0
  refine (walk (.slice sq0_0 sn0_0 sk0_0) _ S0_0_ B0_0_ a0_1 (bounds_i64 w0_1) a0_2 (bounds_i64 w0_2) a0_3 (bounds_i64 w0_3) a0_4 (bounds_i64 w0_4) a1 (bounds_i64 w1)).mono fun e W' ⟨he, bel⟩ => ?_
  subst he
  exact ⟨_, rfl, _, _, _, [], _, [], hW', trodAll_mk1 (shut_bool Try.underlying4 _), (trodAll_cons_mk (Below.trod laidOut (by kernel_rfl) (of_decide_eq_true (by kernel_rfl)) k0 bel lt0) (trodAll_cons_mk (Below.trod laidOut (by kernel_rfl) (of_decide_eq_true (by kernel_rfl)) k1 bel lt1) trodAll_mk0)), rfl, bel.frame _, fun h => by cases h⟩

theorem over : Rows.gateCoversRow.holds Try.pinned (OpenSpec.ofChange Rows.gateCoversSpec) :=
  OpenClaim.holds_of_wide 3 Try.f3 rfl rfl rfl rfl rfl rfl rfl ⟨rfl, rfl, rfl, rfl, rfl⟩ rfl rfl rfl rfl rfl (by kernel_rfl) Try.func3 (by kernel_rfl)
    (of_decide_eq_true (by kernel_rfl)) (by unfold Func.isWrapper; first | (rw [if_pos (by decide +kernel)]; kernel_rfl) | (rw [if_neg (by decide +kernel)]; exact ⟨rfl, rfl⟩))
    (fun os started H enc _ => lifted os started H enc)

theorem proved : Rows.GateCoversSaid := over
end Go.Proofs.Ytogbhiklhcibdaa.gateCovers
namespace Go.Proofs.Ytogbhiklhcibdaa
theorem gateCovers_holds : Rows.GateCoversSaid := gateCovers.proved
#print axioms gateCovers_holds
end Go.Proofs.Ytogbhiklhcibdaa
