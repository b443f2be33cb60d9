/-
  stream's Put.
  stream's Cut: its closure, slices.IndexFunc and slices.DeleteFunc at it.
  slices.DeleteFunc at the closure of stream's Cut.
  Slices that are read beside blocks that turn; places of a cut, on the way. Nothing here names the program.
  stream's Cut.
-/
import Derived.Test.YteffpgodookebaaGreatPk32
import Derived.Test.YteffpgodookebaaGreatPk23
import Derived.Test.YteffpgodookebaaGreatPk26
import Derived.Test.YteffpgodookebaaGreatPk15
namespace Go.Proofs.YteffpgodookebaaGreat
open Go.RowKit
set_option linter.unusedVariables false
set_option maxRecDepth 100000

set_option maxHeartbeats 2000000 in
theorem sput_any {B b : Nat} {vr vh vc : Value} {S : Sm} (o : Op5) (w : World) (h : Sq w B b vr vh vc S) (hf : Fit5 o) (hn : S.nx < 9223372036854775807) (hl : S.ho.length < 100000) :
    Calls Tryz.prog 93 #[sptr b, opV o] w fun e w' => e = .returned (errV (putN S o)) ∧ ∃ vh', Sq w' B b vr vh' vc (putS S o) ∧ Ms b vc w w' vh vh' := by
  obtain ⟨A, hE, hX, hw⟩ := blk1 w (opA o) 49
  have hA := h.keep hw
  have d0 : A.cell? ⟨w.heap.size, 0, none⟩ = some (.int .i64 o.s) := hX.at rfl
  have d1 : A.cell? ⟨w.heap.size, 1, none⟩ = some (.int .i64 o.k) := hX.at rfl
  have d2 : A.cell? ⟨w.heap.size, 2, none⟩ = some (.int .i64 o.t) := hX.at rfl
  have d3 : A.cell? ⟨w.heap.size, 3, none⟩ = some (.int .i64 o.y) := hX.at rfl
  have d4 : A.cell? ⟨w.heap.size, 4, none⟩ = some (.int .i64 o.v) := hX.at rfl
  have c3 : A.cell? ⟨b, 3, none⟩ = some (.int .i64 S.nx) := hA.blk.at rfl
  clear hX
  by_cases cs : o.s = S.nx
  · have hb0 : (o.s != S.nx) = false := by simp [cs]
    by_cases k1 : o.k = 1
    · have hc := fun (W : World) (hW : Sq W B b vr vh vc S) => sputSample_any o W hW cs k1 hf hn hl
      have hb1 : (o.k == 1) = true := by simp [k1]
      clear cs k1
      unfold opA at hE
      unfold opV opA
      go_enter Tryz.func93, Tryz.ntmps93
      go_upto_region 1 with fail
      go_quiet (fail)
      go_wp2_with (go_at_call 126; refine (hc _ (hA.keep (ab_drewN (Below.refl _ _) _))).mono ?_; rintro e W3 ⟨rfl, vh3, h3, m3⟩)
      go_ret
      exact ⟨rfl, vh3, h3, (ms_below _ (ab_drewN hw _)).trans m3⟩
    · have hb1 : (o.k == 1) = false := by simp [k1]
      by_cases k2 : o.k = 2
      · have hc := fun (W : World) (hW : Sq W B b vr vh vc S) => sputMark_any o W hW cs k2 hf hn hl
        have hb2 : (o.k == 2) = true := by simp [k2]
        clear cs k1 k2
        unfold opA at hE
        unfold opV opA
        go_enter Tryz.func93, Tryz.ntmps93
        go_upto_region 1 with fail
        go_quiet (fail)
        go_wp2_with (go_at_call 127; refine (hc _ (hA.keep (ab_drewN (Below.refl _ _) _))).mono ?_; rintro e W3 ⟨rfl, vh3, h3, m3⟩)
        go_ret
        exact ⟨rfl, vh3, h3, (ms_below _ (ab_drewN hw _)).trans m3⟩
      · have hN : putN S o = 2 := by unfold putN; rw [if_neg (by simp [cs]), if_neg k1, if_neg k2]
        have hS := putS_no (S := S) (o := o) (by rw [hN]; decide)
        rw [hN, hS]
        have hb2 : (o.k == 2) = false := by simp [k2]
        clear cs k1 k2 hN hS
        unfold opA at hE
        unfold opV opA
        go_enter Tryz.func93, Tryz.ntmps93
        go_upto_region 1 with fail
        go_quiet (fail)
        go_wp2_with fail
        go_ret
        exact ⟨rfl, vh, hA.keep (ab_drewN (Below.refl _ _) _), ms_below _ (ab_drewN hw _)⟩
  · have hN : putN S o = 2 := by unfold putN; rw [if_pos cs]
    have hS := putS_no (S := S) (o := o) (by rw [hN]; decide)
    rw [hN, hS]
    have hb0 : (o.s != S.nx) = true := by simp [cs]
    clear cs hN hS
    unfold opA at hE
    unfold opV opA
    go_enter Tryz.func93, Tryz.ntmps93
    go_upto_region 1 with fail
    go_quiet (fail)
    go_wp2_with fail
    go_ret
    exact ⟨rfl, vh, hA.keep (ab_drewN (Below.refl _ _) _), ms_below _ (ab_drewN hw _)⟩
set_option maxHeartbeats 1000000 in
theorem sput_nil (o : Op5) (w : World) : Calls Tryz.prog 93 #[.pointer none, opV o] w fun e w' => e = .returned (Err 2) ∧ Below w.heap.size w w' := by
  obtain ⟨A, hE, hX, hw⟩ := blk1 w (opA o) 49
  unfold opA at hE
  unfold opV opA
  go_enter Tryz.func93, Tryz.ntmps93
  go_upto_region 1 with fail
  go_quiet (fail)
  go_wp2_with fail
  go_ret
  exact ⟨rfl, ab_drewN hw _⟩
end Go.Proofs.YteffpgodookebaaGreat
namespace Go.Proofs.YteffpgodookebaaGreat
open Go.RowKit
set_option linter.unusedVariables false
set_option maxRecDepth 100000

/-- What the closure of Cut reads. -/
structure Cw (W : World) (B bs b : Nat) (vr vh vc : Value) (S : Sm) : Prop where
  bx : Blk W bs #[sptr b] 71
  blk : Blk W b (stC S vr vh vc) 152
  re : Io W B vr S.res
  ce : EO E2 89 W B vc S.ct
  ok : Oks S
theorem Cw.keep {W W' : World} {B bs b : Nat} {vr vh vc : Value} {S : Sm} (h : Cw W B bs b vr vh vc S) (hb : Below W.heap.size W W') : Cw W' B bs b vr vh vc S :=
  ⟨h.bx.keep hb, h.blk.keep hb, h.re.keep hb, h.ce.keep hb, h.ok⟩
/-- A row of operations turns. -/
theorem Cw.chg {W W' : World} {B bs b g : Nat} {vr vh vc : Value} {S : Sm} (h : Cw W B bs b vr vh vc S) (hc : Chg g W W') (hk : kindR W g 49) : Cw W' B bs b vr vh vc S := by
  have h1 : bs ≠ g := fun e => absurd (h.bx.kindR.uniq (e ▸ hk)) (by decide)
  have h2 : b ≠ g := fun e => absurd (h.blk.kindR.uniq (e ▸ hk)) (by decide)
  exact ⟨h.bx.chg hc h1, h.blk.chg hc h2, own_chgT h.re hc (fun e => absurd ((own_kindR h.re e).uniq hk) (by decide)), own_chgT h.ce hc (fun e => absurd ((own_kindR h.ce e).uniq hk) (by decide)), h.ok⟩
theorem Rw.kind {α : Type} {E : En α} {e : TypeId} {W : World} {g cap : Nat} {L : List α} (h : Rw E e W g cap L) : kindR W g e := by
  obtain ⟨_, _, cur, hB, _⟩ := h
  exact hB.kindR
theorem covered5 (o : Op5) {W : World} {B : Nat} {vr vc : Value} {S : Sm} (hr : Is W vr S.res) (hc : ER E2 W vc S.ct) (hok : Oks S) (hf : Fit5 o) :
    Calls Tryz.prog 136 #[opV o, vr, .int .i64 S.sh, vc] W fun e w' => e = .returned (.bool (cov5 S o)) ∧ Below W.heap.size W w' := by
  obtain ⟨q, cap, g, off, rfl, hcc, hm, hp, hg, hro⟩ := hr
  obtain ⟨q2, cap2, g2, off2, rfl, hc2, hm2, hp2, hg2, hr2⟩ := hc.row2
  exact covered_any o.s o.k o.t o.y o.v q g off S.res.length cap S.res S.sh q2 g2 off2 S.ct.length cap2 S.ct W rfl (by have := hok.r1; omega) hp hg hro hf.t.1 hf.t.2 hf.y.1 hf.y.2 (by have := hok.s1; omega) (fun j r h => (hok.rr r (List.mem_of_getElem? h)).2) rfl hp2 hg2 hr2
set_option maxHeartbeats 1000000 in
theorem scut1_any (o : Op5) {B bs b : Nat} {vr vh vc : Value} {S : Sm} (w : World) (h : Cw w B bs b vr vh vc S) (hf : Fit5 o) :
    Calls Tryz.prog 135 #[opV o, .pointer (some ⟨bs, 0, none⟩)] w fun e w' => e = .returned (.bool (cov5 S o)) ∧ Below w.heap.size w w' := by
  obtain ⟨A, hE, hX, hw⟩ := blk1 w (opA o) 49
  have hA := h.keep hw
  obtain ⟨qr, cr, er⟩ := hA.re.is.form
  obtain ⟨qc, cc, ec⟩ := hA.ce.form
  have y0 : ∀ y : Cls A, y.val.cell? ⟨w.heap.size, 0, none⟩ = some (.int .i64 o.s) := fun y => (hX.keep y.prop).at rfl
  have y1 : ∀ y : Cls A, y.val.cell? ⟨w.heap.size, 1, none⟩ = some (.int .i64 o.k) := fun y => (hX.keep y.prop).at rfl
  have y2 : ∀ y : Cls A, y.val.cell? ⟨w.heap.size, 2, none⟩ = some (.int .i64 o.t) := fun y => (hX.keep y.prop).at rfl
  have y3 : ∀ y : Cls A, y.val.cell? ⟨w.heap.size, 3, none⟩ = some (.int .i64 o.y) := fun y => (hX.keep y.prop).at rfl
  have y4 : ∀ y : Cls A, y.val.cell? ⟨w.heap.size, 4, none⟩ = some (.int .i64 o.v) := fun y => (hX.keep y.prop).at rfl
  have x0 : ∀ y : Cls A, y.val.cell? ⟨bs, 0, none⟩ = some (sptr b) := fun y => (hA.bx.keep y.prop).at rfl
  have x1 : ∀ y : Cls A, y.val.cell? ⟨b, 0, none⟩ = some vr := fun y => (hA.blk.keep y.prop).at rfl
  have x2 : ∀ y : Cls A, y.val.cell? ⟨b, 1, none⟩ = some (.int .i64 S.sh) := fun y => (hA.blk.keep y.prop).at rfl
  have x3 : ∀ y : Cls A, y.val.cell? ⟨b, 10, none⟩ = some vc := fun y => (hA.blk.keep y.prop).at rfl
  have HQ : ∀ y : Cls A, Calls Tryz.prog 136 #[opV o, vr, .int .i64 S.sh, vc] y.val fun e w' => e = .returned (.bool (cov5 S o)) ∧ Below y.val.heap.size y.val w' := fun y => covered5 (B := B) o (hA.re.is.keep y.prop) (hA.ce.er.keep y.prop) hA.ok hf
  rw [er] at x1 HQ
  rw [ec] at x3 HQ
  unfold opA at hE
  unfold opV opA
  unfold opV opA at HQ
  go_enter Tryz.func135, Tryz.ntmps135
  go_upto_region 1 with fail
  have HZ := cls_some A
  refine wp_region_below (by kernel_rfl) (by kernel_rfl) ?_
  repeat (go_big_quiet_step (first | (go_at_call 136; exact calls_below (HQ _))))
  refine wpQuiet_nil ?_
  rintro _ ⟨y, rfl⟩
  go_wp2_with fail
  go_ret
  exact ⟨rfl, ab_trans hw y.prop⟩
/-- The function value that Cut hands over. -/
abbrev cutV (bs : Nat) : Value := .func (.func 135) #[] #[.pointer (some ⟨bs, 0, none⟩)]
set_option maxHeartbeats 1000000 in
theorem sindexf_any (v : Value) (l : List Op5) {B bs b : Nat} {vr vh vc : Value} {S : Sm} (w : World) (hv : ER E5 w v l) (h : Cw w B bs b vr vh vc S) (hf : ∀ o ∈ l, Fit5 o) (hl : l.length ≤ 100000) :
    Calls Tryz.prog 155 #[v, cutV bs] w fun e w' => ∃ i : Int, e = .returned (.int .i64 i) ∧ ((i = -1 ∧ ∀ o ∈ l, cov5 S o = false) ∨ (∃ k : Nat, i = (k : Int) ∧ k < l.length ∧ (∀ o ∈ l.take k, cov5 S o = false) ∧ ∀ o, l[k]? = some o → cov5 S o = true)) ∧ Below w.heap.size w w' := by
  obtain ⟨q, cap, g, off, rfl, hc, hm, hp, hr⟩ := hv.at
  generalize hn : l.length = n at *
  go_enter Tryz.func155, Tryz.ntmps155
  go_wp2_with fail
  go_loopw [8] (fun i wr => ∃ k : Nat, k ≤ n ∧ i = .int .i64 (k : Int) ∧ (∀ x ∈ l.take k, cov5 S x = false) ∧ Below w.heap.size w wr) (fun i _ => n - (intOf i).toNat)
  case atStart => exact ⟨0, by omega, rfl, fun x hx => by simp at hx, Below.refl _ _⟩
  case round =>
    obtain ⟨k, hk, rfl, hall, hw⟩ := hrel
    by_cases c : k = n
    · subst c
      have HV : Hid (∀ o ∈ l, cov5 S o = false) := by
        rw [List.take_of_length_le (by omega)] at hall
        exact hall
      clear hall hr
      go_wp2_with fail
      go_ret
      exact ⟨-1, rfl, .inl ⟨rfl, HV.out⟩, hw⟩
    · obtain ⟨o, ho⟩ : ∃ o, l[k]? = some o := ⟨l[k], List.getElem?_eq_getElem (by omega)⟩
      obtain ⟨rfl, hgk⟩ := hp (by omega)
      have z0 := keep_cell hw (hr k o ho 0 _ rfl) hgk
      have z1 := keep_cell hw (hr k o ho 1 _ rfl) hgk
      have z2 := keep_cell hw (hr k o ho 2 _ rfl) hgk
      have z3 := keep_cell hw (hr k o ho 3 _ rfl) hgk
      have z4 := keep_cell hw (hr k o ho 4 _ rfl) hgk
      rw [Nat.add_zero, show E5.k = 5 from rfl] at z0
      rw [show E5.k = 5 from rfl] at z1 z2 z3 z4
      have hki : (k : Int) < (n : Int) := by omega
      have hcw := h.keep hw
      have hfo := hf o (List.mem_of_getElem? ho)
      have HC := scut1_any o wr hcw hfo
      unfold opV opA at HC
      cases hcv : cov5 S o
      · have HV : Hid (∀ x ∈ l.take (k + 1), cov5 S x = false) := by
          intro x hm
          rw [List.take_add_one, ho] at hm
          simp only [Option.toList_some, List.mem_append, List.mem_singleton] at hm
          rcases hm with hm | rfl
          · exact hall x hm
          · exact hcv
        rw [hcv] at HC
        clear hall hr
        go_wp2_with (go_at_call 135; refine HC.mono ?_; rintro e W2 ⟨rfl, b2⟩)
        go_roundw
        case rel => exact ⟨k + 1, by omega, by go_num, HV.out, ab_trans hw b2⟩
        case measure => simp [intOf]; omega
      · have HA : Hid (∀ o ∈ l.take k, cov5 S o = false) := hall
        have HB : Hid (∀ x, l[k]? = some x → cov5 S x = true) := fun x hx => by rw [ho] at hx; cases hx; exact hcv
        rw [hcv] at HC
        clear hall hr
        go_wp2_with (go_at_call 135; refine HC.mono ?_; rintro e W2 ⟨rfl, b2⟩)
        go_ret
        exact ⟨(k : Int), rfl, .inr ⟨k, rfl, by omega, HA.out, HB.out⟩, ab_trans hw b2⟩
end Go.Proofs.YteffpgodookebaaGreat
namespace Go.Proofs.YteffpgodookebaaGreat
open Go.RowKit
set_option linter.unusedVariables false
set_option maxRecDepth 100000

theorem zeroO (w : World) : (zeroValue 49).run Tryz.prog w = .ok (.agg (opA zOp)) w := by kernel_rfl
/-- An operation into a row of them. -/
theorem st_rw {ops : Array Oper} {rest : List Oper} {o : Oper} {a : Act} {w : World} {Q : Exit → Act → World → Prop} (hw : Region.wanted o (yielded ops a.tmps) = true) {x y : Operand} (ho : o.op = .store 49 x y) {g cap i : Nat} {L : List Op5} {c : Op5} (h : Rw E5 49 w g cap L) (hi : i < L.length) (hx : a.eval x = .pointer (some ⟨g, i * 5, none⟩)) (hy : a.eval y = opV c)
    (hK : ∀ W', Rw E5 49 W' g cap (L.set i c) → Chg g w W' → wpList Tryz.prog ops Q rest (a.put o.dst undef) W') : wpList Tryz.prog ops Q (o :: rest) a w := by
  obtain ⟨h1, h2, h3⟩ := h.stored hi c
  unfold wpList
  rw [if_pos hw]
  left
  exact wp_store_mid 49 x y ho g (i * 5) (opA c) hx hy h3 (info_op5 c) (by simp [opA, Value.oneCell']) (hK _ h1 h2)
/-- clear, where its run is known. -/
theorem clr_l {P : Program} {ops : Array Oper} {rest : List Oper} {o : Oper} {a : Act} {w : World} {Q : Exit → Act → World → Prop} (hw : Region.wanted o (yielded ops a.tmps) = true) {x : Operand} {t : TypeId} (ho : o.op = .call { callee := .builtin .clear, args := #[x], argTypes := #[t] }) (v : Value) (hx : a.eval x = v) {v' : Value} {w' : World}
    (hr : ∀ ty, (Builtin.clear_ #[t] ty #[v]).run P w = .ok v' w') (h : wpList P ops Q rest (a.put o.dst v') w') : wpList P ops Q (o :: rest) a w := by
  unfold wpList
  rw [if_pos hw]
  left
  unfold Oper.wp execOp
  simp only [ho, resolve, invoke, builtin, Sem.run_bind, Sem.run_pure, Result.andThen_ok, List.map_toArray, List.map_cons, List.map_nil, hx, hr]
  exact h
/-- How far DeleteFunc has come. -/
structure Dl (l L : List Op5) (p : Op5 → Bool) (i j : Nat) : Prop where
  len : L.length = l.length
  lt : i < j
  le : j ≤ l.length
  fst : L.take i = (l.take j).filter p
  lst : L.drop j = l.drop j
theorem Dl.i {l L : List Op5} {p : Op5 → Bool} {i j : Nat} (h : Dl l L p i j) : i = ((l.take j).filter p).length := by
  rw [← h.fst, List.length_take, h.len, Nat.min_eq_left (by have := h.lt; have := h.le; omega)]
theorem filt_snoc {l : List Op5} {p : Op5 → Bool} {j : Nat} {o : Op5} (ho : l[j]? = some o) : (l.take (j + 1)).filter p = (l.take j).filter p ++ (if p o = true then [o] else []) := by
  rw [List.take_add_one, ho, List.filter_append]
  congr 1
  simp only [Option.toList_some, List.filter_cons, List.filter_nil]
theorem Dl.at {l L : List Op5} {p : Op5 → Bool} {i j : Nat} (h : Dl l L p i j) (hj : j < l.length) : L[j]? = l[j]? := by
  have e1 := List.getElem?_drop (xs := L) (i := j) (j := 0)
  have e2 := List.getElem?_drop (xs := l) (i := j) (j := 0)
  rw [Nat.add_zero] at e1 e2
  rw [← e1, ← e2, h.lst]
theorem Dl.skip {l L : List Op5} {p : Op5 → Bool} {i j : Nat} {o : Op5} (h : Dl l L p i j) (ho : l[j]? = some o) (hp : p o = false) : Dl l L p i (j + 1) := by
  have hj := (List.getElem?_eq_some_iff.1 ho).1
  refine ⟨h.len, by have := h.lt; omega, hj, ?_, ?_⟩
  · rw [filt_snoc ho, hp, h.fst]; simp
  · rw [← List.drop_drop, ← List.drop_drop, h.lst]
theorem Dl.take {l L : List Op5} {p : Op5 → Bool} {i j : Nat} {o : Op5} (h : Dl l L p i j) (ho : l[j]? = some o) (hp : p o = true) : Dl l (L.set i o) p (i + 1) (j + 1) := by
  have hj := (List.getElem?_eq_some_iff.1 ho).1
  have hlt := h.lt
  have hi : i < L.length := by rw [h.len]; omega
  refine ⟨by rw [List.length_set, h.len], by omega, hj, ?_, ?_⟩
  · rw [filt_snoc ho, hp, ← h.fst, List.take_add_one, List.take_set_of_le (Nat.le_refl _), List.getElem?_set_self hi]; simp
  · rw [List.drop_set_of_lt (by omega), ← List.drop_drop, ← List.drop_drop, h.lst]
theorem Dl.start {l : List Op5} {p : Op5 → Bool} {k : Nat} (hk : k < l.length) (h1 : ∀ o ∈ l.take k, p o = true) (h2 : ∀ o, l[k]? = some o → p o = false) : Dl l l p k (k + 1) := by
  obtain ⟨o, ho⟩ : ∃ o, l[k]? = some o := ⟨l[k], List.getElem?_eq_getElem hk⟩
  refine ⟨rfl, by omega, hk, ?_, rfl⟩
  rw [filt_snoc ho, h2 o ho, List.filter_eq_self.2 h1]; simp
set_option maxHeartbeats 2000000 in
theorem sdelete_any (l : List Op5) (v : Value) {B bs b : Nat} {vr vh vc : Value} {S : Sm} (w : World) (hO : EO E5 49 w B v l) (h : Cw w B bs b vr vh vc S) (hf : ∀ o ∈ l, Fit5 o) (hl : l.length ≤ 100000) :
    Calls Tryz.prog 137 #[v, cutV bs] w fun e w' => ∃ v', e = .returned v' ∧ EO E5 49 w' B v' (l.filter fun o => !cov5 S o) ∧ Frm (fun k => v.ownBlock = some k) w w' ∧ ∀ r, v'.ownBlock = some r → v.ownBlock = some r := by
  obtain ⟨q, cap, g, off, rfl, hc, hm, hp, -⟩ := hO.er
  have HO : Hid (EO E5 49 w B (.slice q l.length cap) l) := hO
  have hER := hO.er
  clear hO
  go_enter Tryz.func137, Tryz.ntmps137
  go_upto_region 2 with (go_at_call 155; refine (sindexf_any _ l _ hER h hf hl).mono ?_; rintro e W1 ⟨i, rfl, hi, b1⟩)
  have HO1 : Hid (EO E5 49 W1 B (.slice q l.length cap) l) := HO.out.keep b1
  have h1 := h.keep b1
  have hfr1 : Frm (fun k => (Value.slice q l.length cap).ownBlock = some k) w W1 := frm_below b1
  clear h HO hER b1
  rcases hi with ⟨rfl, hall⟩ | ⟨k, rfl, hk, hbef, hat⟩
  · have HV : Hid (l.filter (fun o => !cov5 S o) = l) := by
      show _ = _
      rw [List.filter_eq_self]
      intro o ho
      rw [hall o ho]; rfl
    clear hall
    go_wp2_with fail
    go_ret
    exact ⟨_, rfl, by rw [HV.out]; exact HO1.out, hfr1, fun r hr => hr⟩
  · have hD0 : Dl l l (fun o => !cov5 S o) k (k + 1) := Dl.start hk (fun o ho => by rw [hbef o ho]; rfl) (fun o ho => by rw [hat o ho]; rfl)
    obtain ⟨rfl, -⟩ := hp (by omega)
    clear hbef hat hp
    have hoff : off = 0 := by
      have := HO1.out.2
      rcases this with ⟨h2, _⟩ | ⟨g', cap', cur, e1, _⟩
      · cases h2
      · cases e1; rfl
    subst hoff
    obtain ⟨hR1, hBg⟩ := HO1.out.rw
    have hkm : ¬ ((k : Int) = -1) := by omega
    generalize hn : l.length = n at *
    clear HO1
    go_wp2_with fail
    go_loopw [5, 6] (fun x y wr => ∃ (i j : Nat) (L : List Op5), x = .int .i64 (i : Int) ∧ y = .int .i64 (j : Int) ∧ Dl l L (fun o => !cov5 S o) i j ∧ Rw E5 49 wr g cap L ∧ Cw wr B bs b vr vh vc S ∧ Frm (fun k => (Value.slice (some ⟨g, 0, none⟩) n cap).ownBlock = some k) w wr) (fun _ y _ => n - (intOf y).toNat)
    case atStart => exact ⟨k, k + 1, l, rfl, by go_num, hD0, hR1, h1, hfr1⟩
    case round =>
      clear hD0 hR1 h1 hfr1
      obtain ⟨i, j, L, rfl, rfl, hD, hR, hC, hF⟩ := hrel
      have hLl := hD.len
      have hij := hD.lt
      have hjn := hD.le
      rw [hn] at hLl hjn
      by_cases c : j = n
      · subst c
        have hnc := hR.1
        rw [hLl] at hnc
        obtain ⟨o', es, ho'⟩ := sliced_some g 0 i j cap 5
        have ho2 := ho' (by omega)
        rw [Nat.zero_add] at ho2
        subst ho2
        have hcl := fun (ty : TypeId) => rw_clear (P := Tryz.prog) (ty := ty) (c := cap - i) zOp rfl Tryz.underlying42 zeroO hR (i := i) (n := j - i) (by omega) (by omega)
        obtain ⟨W2, hr2, hR2, C2⟩ := hcl 0
        have hr2' : ∀ ty, (Builtin.clear_ #[42] ty #[.slice (some ⟨g, i * 5, none⟩) (j - i) (cap - i)]).run Tryz.prog wr = .ok (.tuple #[]) W2 := fun ty => hr2
        have HR2 := hR2.eo hBg (i := i) (by rw [List.length_append, List.length_append, List.length_take, List.length_replicate]; omega)
        have HT : Hid (EO E5 49 W2 B (.slice (some ⟨g, 0, none⟩) i cap) (l.filter fun o => !cov5 S o)) := by
          have e1 : (L.take i ++ List.replicate (j - i) zOp ++ L.drop (i + (j - i))).take i = L.take i := by
            rw [List.append_assoc, List.take_left' (by rw [List.length_take]; omega)]
          rw [e1, hD.fst, List.take_of_length_le (by omega)] at HR2
          exact HR2
        have hF2 := hF.trans (frm_chg (X := fun k => (Value.slice (some ⟨g, 0, none⟩) j cap).ownBlock = some k) C2 rfl)
        clear hcl hr2 hR2 HR2 hR hC C2 hD hF ho'
        go_wp2_with (first
          | (refine valS rfl _ (slo_l (o' := i * 5) rfl rfl rfl rfl eltO (sizeO _) (by omega) (by omega) es) ?_)
          | (refine valS rfl _ (slo_h rfl rfl rfl rfl eltO (sizeO _) (by omega)) ?_)
          | (refine clr_l rfl rfl _ rfl hr2' ?_))
        go_ret
        exact ⟨_, rfl, HT.out, hF2, fun r hr => hr⟩
      · have hji : (j : Int) < (n : Int) := by omega
        obtain ⟨o, ho⟩ : ∃ o, l[j]? = some o := ⟨l[j], List.getElem?_eq_getElem (by omega)⟩
        have hoL : L[j]? = some o := by rw [hD.at (by omega)]; exact ho
        have z0 : wr.cell? ⟨g, j * 5, none⟩ = some (.int .i64 o.s) := hR.cell (i := 0) hoL rfl
        have z1 : wr.cell? ⟨g, j * 5 + 1, none⟩ = some (.int .i64 o.k) := hR.cell (i := 1) hoL rfl
        have z2 : wr.cell? ⟨g, j * 5 + 2, none⟩ = some (.int .i64 o.t) := hR.cell (i := 2) hoL rfl
        have z3 : wr.cell? ⟨g, j * 5 + 3, none⟩ = some (.int .i64 o.y) := hR.cell (i := 3) hoL rfl
        have z4 : wr.cell? ⟨g, j * 5 + 4, none⟩ = some (.int .i64 o.v) := hR.cell (i := 4) hoL rfl
        obtain ⟨A, hE, hX, hw⟩ := blk1 wr (opA o) 49
        have HC := scut1_any o A (hC.keep hw) (hf o (List.mem_of_getElem? ho))
        have y0 : A.cell? ⟨wr.heap.size, 0, none⟩ = some (.int .i64 o.s) := hX.at rfl
        have y1 : A.cell? ⟨wr.heap.size, 1, none⟩ = some (.int .i64 o.k) := hX.at rfl
        have y2 : A.cell? ⟨wr.heap.size, 2, none⟩ = some (.int .i64 o.t) := hX.at rfl
        have y3 : A.cell? ⟨wr.heap.size, 3, none⟩ = some (.int .i64 o.y) := hX.at rfl
        have y4 : A.cell? ⟨wr.heap.size, 4, none⟩ = some (.int .i64 o.v) := hX.at rfl
        unfold opA at hE
        unfold opV opA at HC
        cases hcv : cov5 S o
        · rw [hcv] at HC
          go_upto_region 9 with (go_at_call 135; refine HC.mono ?_; rintro e W2 ⟨rfl, b2⟩)
          have HD : Hid (Dl l (L.set i o) (fun o => !cov5 S o) (i + 1) (j + 1)) := hD.take ho (by rw [hcv]; rfl)
          have hX2 := hX.keep b2
          have g0 : W2.cell? ⟨wr.heap.size, 0, none⟩ = some (.int .i64 o.s) := hX2.at rfl
          have g1 : W2.cell? ⟨wr.heap.size, 1, none⟩ = some (.int .i64 o.k) := hX2.at rfl
          have g2 : W2.cell? ⟨wr.heap.size, 2, none⟩ = some (.int .i64 o.t) := hX2.at rfl
          have g3 : W2.cell? ⟨wr.heap.size, 3, none⟩ = some (.int .i64 o.y) := hX2.at rfl
          have g4 : W2.cell? ⟨wr.heap.size, 4, none⟩ = some (.int .i64 o.v) := hX2.at rfl
          have bw := ab_trans hw b2
          have hR2 := hR.keep bw
          have hC2 := hC.keep bw
          have hF2 := hF.trans (frm_below bw)
          have hin : (i : Int) < (n : Int) := by omega
          have hiL : i < L.length := by omega
          clear hE y0 y1 y2 y3 y4 z0 z1 z2 z3 z4 hD HC hw b2 hX hR hC hF hX2
          go_wp2_with (refine st_rw rfl rfl (c := o) hR2 hiL rfl rfl ?_; intro W3 hR3 C3)
          have hC3 := hC2.chg C3 hR2.kind
          have hF3 := hF2.trans (frm_chg (X := fun k => (Value.slice (some ⟨g, 0, none⟩) n cap).ownBlock = some k) C3 rfl)
          refine ⟨⟨_, _, _, _, _, _, _, _, _, _, _, _, _, _, _, _, _, _, _, _, _, _, _, ?_, rfl⟩, ?_⟩
          · exact ⟨i + 1, j + 1, _, by go_num, by go_num, HD.out, hR3, hC3, hF3⟩
          · simp [intOf]; omega
        · have HD : Hid (Dl l L (fun o => !cov5 S o) i (j + 1)) := hD.skip ho (by rw [hcv]; rfl)
          rw [hcv] at HC
          clear hD
          go_wp2_with (go_at_call 135; refine HC.mono ?_; rintro e W2 ⟨rfl, b2⟩)
          have bw := ab_trans hw b2
          refine ⟨⟨_, _, _, _, _, _, _, _, _, _, _, _, _, _, _, _, _, _, _, _, _, _, _, ?_, rfl⟩, ?_⟩
          · exact ⟨i, j + 1, L, rfl, by go_num, HD.out, hR.keep bw, hC.keep bw, hF.trans (frm_below bw)⟩
          · simp [intOf]; omega
end Go.Proofs.YteffpgodookebaaGreat
namespace Go.Proofs.YteffpgodookebaaGreat
open Go.RowKit
set_option linter.unusedVariables false
set_option maxRecDepth 100000

theorem EO.at0 {α : Type} {E : En α} {e : TypeId} {W : World} {B : Nat} {v : Value} {l : List α} (h : EO E e W B v l) (hl : 0 < l.length) : ∃ g cap, v = .slice (some ⟨g, 0, none⟩) l.length cap := by
  rcases h.2 with ⟨_, h2⟩ | ⟨g, cap, cur, e1, _⟩
  · omega
  · exact ⟨g, cap, e1⟩
/-- The block of a slice isn't one of these. -/
def OutB (v : Value) (X : Nat → Prop) : Prop := ∀ a n c, v = .slice (some a) n c → ¬ X a.block
theorem ER.frm {α : Type} {E : En α} {W W' : World} {v : Value} {l : List α} {X : Nat → Prop} (h : ER E W v l) (hf : Frm X W W') (hx : OutB v X) : ER E W' v l := by
  obtain ⟨q, cap, g, off, h1, h2, h3, h4, h5⟩ := h
  refine ⟨q, cap, g, off, h1, h2, h3, fun h => ⟨(h4 h).1, Nat.lt_of_lt_of_le (h4 h).2 hf.size⟩, fun j u hu => ?_⟩
  have hl : 0 < l.length := by
    have := (List.getElem?_eq_some_iff.1 hu).1
    rw [E.fl_len] at this
    exact Nat.pos_of_ne_zero (fun e => by rw [e] at this; simp at this)
  obtain ⟨rfl, hg⟩ := h4 hl
  rw [← h5 j u hu]
  unfold World.cell?
  rw [hf.other g hg (hx _ _ _ h1)]
/-- How far the places of a cut have come. -/
def mixP (ct ps : List (Int × Int)) (k : Nat) : List (Int × Int) := List.zipWith mxP (ct.take k) (ps.take k) ++ ct.drop k
theorem mixP_0 (ct ps : List (Int × Int)) : mixP ct ps 0 = ct := by simp [mixP]
theorem mixP_all {ct ps : List (Int × Int)} (h : ps.length = ct.length) : mixP ct ps ct.length = List.zipWith mxP ct ps := by
  unfold mixP
  rw [List.take_of_length_le (Nat.le_refl _), List.take_of_length_le (by omega), List.drop_of_length_le (Nat.le_refl _), List.append_nil]
theorem mixP_len {ct ps : List (Int × Int)} (h : ps.length = ct.length) {k : Nat} (hk : k ≤ ct.length) : (mixP ct ps k).length = ct.length := by
  unfold mixP
  rw [List.length_append, List.length_zipWith, List.length_take, List.length_take, List.length_drop]; omega
theorem mixP_at {ct ps : List (Int × Int)} (h : ps.length = ct.length) {k : Nat} (hk : k < ct.length) : (mixP ct ps k)[k]? = ct[k]? := by
  unfold mixP
  have hl : (List.zipWith mxP (ct.take k) (ps.take k)).length = k := by rw [List.length_zipWith, List.length_take, List.length_take]; omega
  rw [List.getElem?_append_right (by omega), hl, Nat.sub_self, List.getElem?_drop, Nat.add_zero]
theorem mixP_next {ct ps : List (Int × Int)} (h : ps.length = ct.length) {k : Nat} {c p : Int × Int} (hc : ct[k]? = some c) (hp : ps[k]? = some p) : mixP ct ps (k + 1) = (mixP ct ps k).set k (mxP c p) := by
  have hk := (List.getElem?_eq_some_iff.1 hc).1
  have hl : (List.zipWith mxP (ct.take k) (ps.take k)).length = k := by rw [List.length_zipWith, List.length_take, List.length_take]; omega
  unfold mixP
  have hd : ct.drop k = c :: ct.drop (k + 1) := by
    rw [List.drop_eq_getElem_cons hk]
    congr 1
    have := (List.getElem?_eq_some_iff.1 hc).2
    exact this
  rw [List.set_append_right _ _ (by omega), hl, Nat.sub_self, hd, List.set_cons_zero, List.take_add_one, List.take_add_one, hc, hp]
  rw [List.zipWith_append (by rw [List.length_take, List.length_take]; omega)]
  simp
theorem mixP_same {ct ps : List (Int × Int)} (h : ps.length = ct.length) {k : Nat} {c p : Int × Int} (hc : ct[k]? = some c) (hp : ps[k]? = some p) (hm : mxP c p = c) : mixP ct ps (k + 1) = mixP ct ps k := by
  rw [mixP_next h hc hp, hm]
  have hk := (List.getElem?_eq_some_iff.1 hc).1
  have h1 := mixP_at h hk
  rw [hc] at h1
  obtain ⟨h2, h3⟩ := List.getElem?_eq_some_iff.1 h1
  rw [← h3]
  exact List.set_getElem_self h2
end Go.Proofs.YteffpgodookebaaGreat
namespace Go.Proofs.YteffpgodookebaaGreat
open Go.RowKit
set_option linter.unusedVariables false
set_option maxRecDepth 100000

def cutN (S : Sm) (ps : List (Int × Int)) : Nat := if (ps.length : Int) = lanS S then 0 else 2
set_option maxHeartbeats 1000000 in
theorem scut_no {B b : Nat} {vr vh vc : Value} {S : Sm} (vp : Value) (ps : List (Int × Int)) (w : World) (h : Sq w B b vr vh vc S) (hp : ER E2 w vp ps) (hN : (ps.length : Int) ≠ lanS S) :
    Calls Tryz.prog 109 #[sptr b, vp] w fun e w' => e = .returned (.tuple #[.int .i64 0, Err 2]) ∧ Below w.heap.size w w' := by
  obtain ⟨A, hE, hX, hw⟩ := blk1 w #[sptr b] 71
  obtain ⟨q, cap, rfl⟩ := hp.form
  have hA := h.keep hw
  obtain ⟨qr, cr, er⟩ := hA.re.is.form
  obtain ⟨c0, c1, c2, -⟩ := hA.cells A (Below.refl _ _)
  have x0 : A.cell? ⟨w.heap.size, 0, none⟩ = some (sptr b) := hX.at rfl
  rw [er] at c0
  have hb0 : ((ps.length : Int) != (S.res.length : Int) * S.sh) = true := by unfold lanS at hN; simpa using hN
  go_enter Tryz.func109, Tryz.ntmps109
  go_wp2_with (go_at_call 87; refine (slanes_any qr S.res.length cr S.sh S.hd _ h.ok.r1 h.ok.s0 h.ok.s1).mono ?_; rintro e W2 ⟨rfl, b2⟩)
  go_ret2
  exact ⟨rfl, ab_trans hw b2⟩
theorem scut_nil (vp : Value) (ps : List (Int × Int)) (w : World) (hp : ER E2 w vp ps) : Calls Tryz.prog 109 #[.pointer none, vp] w fun e w' => e = .returned (.tuple #[.int .i64 0, Err 2]) ∧ Below w.heap.size w w' := by
  obtain ⟨q, cap, rfl⟩ := hp.form
  go_enter Tryz.func109, Tryz.ntmps109
  go_wp2_with fail
  go_ret2
  exact ⟨rfl, by repeat (first | exact Below.refl _ _ | refine ab_alloc ?_ _)⟩
/-- A place into a row of them, at one operation. -/
theorem st_rwPW {o : Oper} {a : Act} {w : World} {K : Act → World → Prop} {Q : Exit → Act → World → Prop} (d : Option Tmp) (hd : o.dst = d) {x y : Operand} (ho : o.op = .store 89 x y) {g cap i : Nat} {L : List (Int × Int)} {c : Int × Int} (h : Rw E2 89 w g cap L) (hi : i < L.length) (hx : a.eval x = .pointer (some ⟨g, i * 2, none⟩)) (hy : a.eval y = .agg #[.int .i64 c.1, .int .i64 c.2])
    (hK : ∀ W', Rw E2 89 W' g cap (L.set i c) → Chg g w W' → K (a.put d undef) W') : o.wp Tryz.prog a w K Q := by
  subst hd
  obtain ⟨h1, h2, h3⟩ := h.stored hi c
  exact wp_store_mid 89 x y ho g (i * 2) #[.int .i64 c.1, .int .i64 c.2] hx hy h3 sizePl2 (by simp [Value.oneCell']) (hK _ h1 h2)
end Go.Proofs.YteffpgodookebaaGreat
