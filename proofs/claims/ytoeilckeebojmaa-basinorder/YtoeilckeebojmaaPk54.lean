/-
  BasinRaises in memory: single things built.
  BasinOrder in memory: one operation is fed by the law's own closure.
-/
import Derived.Test.YtoeilckeebojmaaPk52
import Derived.Test.YtoeilckeebojmaaPk53
import Derived.Test.YtoeilckeebojmaaPk40
import Derived.Test.YtoeilckeebojmaaPk07
namespace Go.Proofs.Ytoeilckeebojmaa
open Go.RowKit Go.Maps
set_option linter.unusedVariables false
set_option maxRecDepth 100000

theorem ne00r (w : World) : (binOp .neq 32 .nilIface .nilIface).run Try.prog w = .ok (.bool false) w := by kernel_rfl
section
variable {α : Type} {E : En α}
theorem eo_single {e : TypeId} {W : World} {g : Nat} {x : α} (h : Blk W g (E.f x).toArray e) : EO E e W g (.slice (some ⟨g, 0, none⟩) 1 1) [x] := eo_of (n := 1) (by rw [E.fl_one1]; exact own_blkE h (Nat.le_refl _) (by rw [E.len]; omega) (by unfold maxLen; omega))
/-- One thing built as a slice. -/
theorem bsEW {o : Oper} {a : Act} {w : World} {K : Act → World → Prop} {Q : Exit → Act → World → Prop} (d : Option Tmp) (hd : o.dst = d) {t e : TypeId} {parts : Array (Nat × Operand)} (ho : o.op = .buildSlice t 1 parts) (x : α) {vs : Array (Nat × Value)} (hl : parts.map (fun (i, x) => (i, a.eval x)) = vs)
    (hrun : ∀ w : World, (Instr.buildSlice t 1 vs).run Try.prog w = .ok (.slice (some ⟨w.heap.size, 0, none⟩) 1 1) (w.alloc (.cells (E.f x).toArray e)))
    (h : ∀ W', EO E e W' w.heap.size (.slice (some ⟨w.heap.size, 0, none⟩) 1 1) [x] → Below w.heap.size w W' → K (a.put d (.slice (some ⟨w.heap.size, 0, none⟩) 1 1)) W') : o.wp Try.prog a w K Q := by
  subst hd
  unfold Oper.wp execOp
  simp only [ho, Sem.run_bind, hl, hrun, Result.andThen_ok]
  exact h _ (eo_single (Blk.new _ _ _)) ((Below.refl _ _).alloc (Nat.le_refl _) _)
end
theorem bs_pl1 (p : Int × Int) (w : World) : (Instr.buildSlice 36 1 #[(0, .agg #[.int .i64 p.1, .int .i64 p.2])]).run Try.prog w = .ok (.slice (some ⟨w.heap.size, 0, none⟩) 1 1) (w.alloc (.cells (E2.f p).toArray 38)) := bapl1 p.1 p.2 w
theorem bs_op1 (o : Op5) (w : World) : (Instr.buildSlice 22 1 #[(0, .agg #[.int .i64 o.s, .int .i64 o.k, .int .i64 o.t, .int .i64 o.y, .int .i64 o.v])]).run Try.prog w = .ok (.slice (some ⟨w.heap.size, 0, none⟩) 1 1) (w.alloc (.cells (E5.f o).toArray 27)) := by kernel_rfl
theorem stay_eo {α : Type} {E : En α} {K : Bkk} {e : TypeId} {w : World} {g B n c : Nat} {l : List α} (h : EO E e w B (.slice (some ⟨g, 0, none⟩) n c) l) (hx : ∀ k, bkB K k → k < B) : Stay E K w (.slice (some ⟨g, 0, none⟩) n c) l :=
  stay_young h.er (fun k hk => Nat.lt_of_lt_of_le (hx k hk) (World.ownsRow.lt h g rfl).1)
/-- One operation is fed. -/
theorem ra_feed {B : Nat} {K : Bkk} {S : Bsn} {T : List Tok} {j : Nat} (w : World) (h : Bq w B K S) (hI : RaI S T j) (hj : j < 1000) {o : Op5} (ho : Fit5 o) (vc vo : Value) (hc : Stay E2 K w vc [lstP]) (hO : Stay E5 K w vo [raO j o]) :
    Calls Try.prog 11 #[bptr K, .int .i64 0, .int .i64 ((j : Int) + 1), .int .i64 ((j : Int) + 1), vc, vo] w fun e w' => ∃ S' T', e = .returned .nilIface ∧ Bq w' B K S' ∧ RaI S' T' (j + 1) ∧ Frm (bkB K) w w' := by
  have hfl : 0 < S.fl.length := by rw [hI.fl]; omega
  have hfi := List.getElem?_eq_getElem hfl
  have hnx : (j : Int) + 1 = S.fl[0].nx := by
    have := hI.nx
    unfold nxOf at this
    rw [hfi] at this
    exact this.symm
  obtain ⟨h1, T', h2⟩ := ra_next hI hj ho
  have := bafeed_ok 0 ((j : Int) + 1) ((j : Int) + 1) vc vo [lstP] [raO j o] w h hc hO (ra_form hI hj o) hfi hnx (fun p hp => by rw [List.mem_singleton.1 hp]; unfold lstP J64; dsimp only; omega) (fun x hx => by rw [List.mem_singleton.1 hx]; exact ra_fit hj ho) (by unfold J64; omega)
  refine this.mono ?_
  rintro e w' ⟨rfl, hB, hF⟩
  exact ⟨_, _, by rw [h1]; rfl, hB, h2, hF⟩
/-- An entry's block. -/
theorem EE_AG (x : Ent) : entA x = AG 76 ek (entF x) := by
  apply Array.ext'
  exact entA_AG x
theorem er_empty {α : Type} (E : En α) (W : World) (cap : Nat) (q : Option Addr) (h : cap ≤ 9223372036854775807) : ER E W (.slice q 0 cap) [] := ⟨q, cap, 0, 0, rfl, Nat.zero_le _, h, fun h => absurd h (by simp), fun j u hu => by simp [En.fl] at hu⟩
theorem stay_eo2 {α : Type} {E : En α} {K : Bkk} {e : TypeId} {w : World} {B : Nat} {v : Value} {l : List α} (h : EO E e w B v l) (hx : ∀ k, bkB K k → k < B) : Stay E K w v l := by
  by_cases h0 : 0 < l.length
  · obtain ⟨g, cap, rfl⟩ := EO.at0 h h0
    exact stay_eo h hx
  · have hl : l = [] := List.length_eq_zero_iff.1 (by omega)
    subst hl
    obtain ⟨q, cap, g, off, rfl, h2, h3, h4, h5⟩ := h.er
    exact fun V _ => er_empty E V cap q h3
theorem bs_ent0 (w : World) : (Instr.buildSlice 77 0 #[]).run Try.prog w = .ok (.slice (some ⟨w.heap.size, 0, none⟩) 0 0) (w.alloc (.cells #[] 107)) := by kernel_rfl
theorem bs_ea1 (e : Nat → Int) (w : World) : (Instr.buildSlice 77 1 #[(0, .agg (EA e))]).run Try.prog w = .ok (.slice (some ⟨w.heap.size, 0, none⟩) 1 1) (w.alloc (.cells (EA e) 107)) := by kernel_rfl
theorem bs_ent1 (x : Ent) (w : World) : (Instr.buildSlice 77 1 #[(0, .agg (entA x))]).run Try.prog w = .ok (.slice (some ⟨w.heap.size, 0, none⟩) 1 1) (w.alloc (.cells (EE.f x).toArray 107)) := by
  have h : (EE.f x).toArray = entA x := by show (entA x).toList.toArray = _; simp
  rw [h, EE_AG]
  exact bs_ea1 _ w
section
variable {ops : Array Oper} {rest : List Oper} {o : Oper} {a : Act} {w : World} {Q : Exit → Act → World → Prop}
/-- An entry out of a row of entries. -/
theorem ld_EE (hgd : o.guard = none) {x : Operand} (ho : o.op = .load 107 x) {b q : Nat} {c : Ent} (hr : w.rangeAt b q (entA c).toList) (hx : a.eval x = .pointer (some ⟨b, q, none⟩))
    (h : wpList Try.prog ops Q rest (a.put o.dst (.agg (entA c))) w) : wpList Try.prog ops Q (o :: rest) a w := by
  rw [EE_AG] at hr h
  exact ld_ent hgd ho hr hx h
theorem st_EE (hgd : o.guard = none) {x y : Operand} (ho : o.op = .store 107 x y) {b : Nat} {c : Ent} {d : Nat → Int} {t : TypeId} (hB : Blk w b (EA d) t) (hx : a.eval x = .pointer (some ⟨b, 0, none⟩)) (hy : a.eval y = .agg (entA c))
    (h : ∀ W', Blk W' b (entA c) t → Chg b w W' → wpList Try.prog ops Q rest (a.put o.dst undef) W') : wpList Try.prog ops Q (o :: rest) a w := by
  rw [EE_AG] at hy h
  exact st_ent hgd ho hB hx hy h
theorem bs_EE (hw : Region.wanted o (yielded ops a.tmps) = true) {parts : Array (Nat × Operand)} (ho : o.op = .buildSlice 77 1 parts) (e : Ent) (hl : parts.map (fun (i, x) => (i, a.eval x)) = #[(0, .agg (entA e))])
    (h : ∀ W', EO EE 107 W' w.heap.size (.slice (some ⟨w.heap.size, 0, none⟩) 1 1) [e] → Below w.heap.size w W' → wpList Try.prog ops Q rest (a.put o.dst (.slice (some ⟨w.heap.size, 0, none⟩) 1 1)) W') : wpList Try.prog ops Q (o :: rest) a w := by
  unfold wpList
  rw [if_pos hw]
  left
  unfold Oper.wp execOp
  simp only [ho, Sem.run_bind, hl, bs_ent1, Result.andThen_ok]
  exact h _ (eo_single (Blk.new _ _ _)) ((Below.refl _ _).alloc (Nat.le_refl _) _)
end
theorem er_range {W : World} {n cap : Nat} {q : Option Addr} {l : List Ent} (h : ER EE W (.slice q n cap) l) (hn : 0 < n) : ∃ g off, q = some ⟨g, off, none⟩ ∧ g < W.heap.size ∧ ∀ j x, l[j]? = some x → W.rangeAt g (off + j * 76) (entA x).toList := by
  obtain ⟨q', cap', g, off, e, h2, h3, h4, h5⟩ := h.at
  injection e with e1 e2 e3
  subst e1
  obtain ⟨e4, e5⟩ := h4 (by omega)
  exact ⟨g, off, e4, e5, fun j x hx i u hu => h5 j x hx i u hu⟩
end Go.Proofs.Ytoeilckeebojmaa
namespace Go.Proofs.Ytoeilckeebojmaa
open Go.RowKit Go.Maps
set_option linter.unusedVariables false
set_option maxRecDepth 100000

theorem and_one (x : Int) : IntKind.i64.wrap ((BitVec.ofInt 64 x &&& BitVec.ofInt 64 1).toNat : Int) = x % 2 := by
  have h1 : (BitVec.ofInt 64 x &&& BitVec.ofInt 64 1).toNat = (x % 18446744073709551616).toNat % 2 := by
    rw [BitVec.toNat_and, BitVec.toNat_ofInt, show (BitVec.ofInt 64 1).toNat = 1 by decide, Nat.and_one_is_mod]
    rfl
  rw [h1, i64_wrap16]
  unfold wrap64
  omega
theorem and1_oper {P : Program} {o : Oper} {ρ : Operand → Value} {x y : Operand} {t t' : TypeId} {k : Int} (ho : o.op = .binOp .and t x y t') (hx : ρ x = .int .i64 k) (hy : ρ y = .int .i64 1) (w : World) : (execOp ρ o).run P w = .ok (.value (.int .i64 (k % 2))) w := by
  unfold execOp
  simp only [ho, hx, hy]
  rw [← and_one k]
  rfl
set_option maxHeartbeats 2000000 in
theorem od_cl {B : Nat} {K : Bkk} {S : Bsn} (i j : Nat) (o : Op5) (w : World) (h : Bq w B K S) {f : Flw} (hfi : S.fl[i]? = some f) (hx : f.nx = (j : Int) + 1) (hj : j < 100) (hform : fdF S (i : Int) ((j : Int) + 1) ((j : Int) + 1) odC [sqO j o]) (hE0 : tkE (fdR S i odC [sqO j o]) = 0) (ho : Fit5 o) (gc : Nat) (q : Option Addr) (c : Nat)
    (hb : w.cell? ⟨gc, 0, none⟩ = some (.slice q 4 c)) (hgc : gc < w.heap.size) (hs : Stay E2 K w (.slice q 4 c) odC) :
    Calls Try.prog 26 #[bptr K, .int .i64 (i : Int), opV o, .pointer (some ⟨gc, 0, none⟩)] w fun e w' => e = .returned (.bool true) ∧ Bq w' B K (fdZ S i ((j : Int) + 1) odC [sqO j o]) ∧ Frm (bkB K) w w' := by
  obtain ⟨A, hE, hX, hw⟩ := blk1 w (opA o) 27
  have hB : Hid (Bq A B K S) := h.keep hw
  have HX : Hid (Blk A w.heap.size (opA o) 27) := hX
  have HNx : Hid (∀ V, Below A.heap.size A V → Calls Try.prog 12 #[bptr K, .int .i64 (i : Int)] V fun e w' => e = .returned (.int .i64 ((j : Int) + 1)) ∧ w' = V) := fun V hV => by
    have := bnext_at i f V (hB.out.keep hV) hfi
    rw [hx] at this
    exact this
  have HC : Hid (∀ V, Below A.heap.size A V → V.cell? ⟨gc, 0, none⟩ = some (.slice q 4 c)) := fun V hV => keep_cell (ab_trans hw hV) hb hgc
  have HK1 : Hid (∀ V, Below A.heap.size A V → V.cell? ⟨w.heap.size, 1, none⟩ = some (.int .i64 o.k)) := fun V hV => (HX.out.keep hV).at rfl
  have HS : Hid (Stay E2 K w (.slice q 4 c) odC) := hs
  have hgb : ¬ bkB K w.heap.size := fun hk => absurd (h.bks hk).2 (Nat.lt_irrefl _)
  have hbk : ∀ k, bkB K k → k < A.heap.size := fun k hk => (hB.out.bks hk).2
  clear hX hb hs h
  unfold opA at hE
  unfold opV opA
  go_enter Try.func26, Try.ntmps26
  go_upto_region 1 with fail
  clear hE
  refine region_L 8 (S := fun w' => Below A.heap.size A w') (by kernel_rfl) (ab_drew (Below.refl _ _)) (fun hHeld => ?_)
  refine takeP (i := 0) (some 8) (by rfl) rfl rfl (by kernel_rfl) (by kernel_rfl) (by kernel_rfl) (fun _ _ _ h => h) (by rfl) (fun w => by go_simp; try rfl) hHeld ?_
  go_frame
  refine takeP (i := 1) (some 9) (by rfl) rfl rfl (by kernel_rfl) (by kernel_rfl) (by kernel_rfl) (fun _ _ _ h => h) (by rfl) (fun w => by go_simp; try rfl) hHeld ?_
  go_frame
  refine takeP (i := 3) (some 11) (by rfl) rfl rfl (by kernel_rfl) (by kernel_rfl) (by kernel_rfl) (fun _ _ _ h => h) (by rfl) (fun w => by go_simp; try rfl) hHeld ?_
  go_frame
  refine takeL (i := 4) [8] (some 12) (by rfl) rfl rfl (by kernel_rfl) (by kernel_rfl) (by kernel_rfl) (by kernel_rfl) (fun _ _ _ h => h) (by rfl) (fun w hSw => by (try dsimp only at hSw); (have q1 := HK1.out _ hSw; go_simp; try rfl)) hHeld ?_
  go_frame
  refine takeP (i := 5) (some 13) (by rfl) rfl rfl (by kernel_rfl) (by kernel_rfl) (by kernel_rfl) (fun _ _ _ h => h) (by rfl) (fun w => by exact and1_oper rfl rfl rfl w) hHeld ?_
  go_frame
  refine takeP (i := 6) (some 14) (by rfl) rfl rfl (by kernel_rfl) (by kernel_rfl) (by kernel_rfl) (fun _ _ _ h => h) (by rfl) (fun w => by go_simp; try rfl) hHeld ?_
  go_frame
  refine anyL_ready (rs := [2]) (by kernel_rfl) (by simp) (AllL.cons rfl (fun K hK => ?_) AllL.nil)
  go_simp
  refine (HNx.out _ hHeld).mono ?_
  rintro e V1 ⟨rfl, rfl⟩
  show K _ _
  refine hK.out _ _ hHeld (fun hHeld => ?_)
  clear hK K
  refine takeP (i := 7) (some 15) (by rfl) rfl rfl (by kernel_rfl) (by kernel_rfl) (by kernel_rfl) (fun _ _ _ h => h) (by rfl) (fun w => by go_simp; try rfl) hHeld ?_
  go_frame
  generalize A.drew = V1 at *
  have hX1 := HX.out.keep hHeld
  have HAn : Hid (IntKind.i64.wrap (1 + o.k % 2) = 1 + o.k % 2) := by show _ = _; rw [i64_wrap16]; unfold wrap64; omega
  obtain ⟨kk, hkk⟩ : ∃ kk, kk = 1 + o.k % 2 := ⟨_, rfl⟩
  rw [HAn.out, ← hkk]
  have HKk : Hid (kk = 1 + o.k % 2) := hkk
  clear hkk HAn
  have g0 : V1.cell? ⟨w.heap.size, 0, none⟩ = some (.int .i64 o.s) := hX1.at rfl
  have f0 : V1.frozen? ⟨w.heap.size, 0, none⟩ = false := hX1.frozen 0
  have hX8 : Blk (V1.setCell ⟨w.heap.size, 0, none⟩ (.int .i64 ((j : Int) + 1))) w.heap.size #[.int .i64 ((j : Int) + 1), .int .i64 o.k, .int .i64 o.t, .int .i64 o.y, .int .i64 o.v] 27 := hX1.set 0 _
  have C8 : Chg w.heap.size V1 (V1.setCell ⟨w.heap.size, 0, none⟩ (.int .i64 ((j : Int) + 1))) := chg_set _ _ _ _
  have g1 : (V1.setCell ⟨w.heap.size, 0, none⟩ (.int .i64 ((j : Int) + 1))).cell? ⟨w.heap.size, 1, none⟩ = some (.int .i64 o.k) := hX8.at rfl
  have f1 : (V1.setCell ⟨w.heap.size, 0, none⟩ (.int .i64 ((j : Int) + 1))).frozen? ⟨w.heap.size, 1, none⟩ = false := hX8.frozen 1
  have hX9 : Blk ((V1.setCell ⟨w.heap.size, 0, none⟩ (.int .i64 ((j : Int) + 1))).setCell ⟨w.heap.size, 1, none⟩ (.int .i64 kk)) w.heap.size #[.int .i64 ((j : Int) + 1), .int .i64 kk, .int .i64 o.t, .int .i64 o.y, .int .i64 o.v] 27 := hX8.set 1 _
  have C9 : Chg w.heap.size (V1.setCell ⟨w.heap.size, 0, none⟩ (.int .i64 ((j : Int) + 1))) ((V1.setCell ⟨w.heap.size, 0, none⟩ (.int .i64 ((j : Int) + 1))).setCell ⟨w.heap.size, 1, none⟩ (.int .i64 kk)) := chg_set _ _ _ _
  have HX9 : Hid (Blk ((V1.setCell ⟨w.heap.size, 0, none⟩ (.int .i64 ((j : Int) + 1))).setCell ⟨w.heap.size, 1, none⟩ (.int .i64 kk)) w.heap.size #[.int .i64 ((j : Int) + 1), .int .i64 kk, .int .i64 o.t, .int .i64 o.y, .int .i64 o.v] 27) := hX9
  have HFr : Hid (Frm (fun k => k = w.heap.size) A ((V1.setCell ⟨w.heap.size, 0, none⟩ (.int .i64 ((j : Int) + 1))).setCell ⟨w.heap.size, 1, none⟩ (.int .i64 kk))) := ((frm_below hHeld).trans (frm_chg (X := fun k => k = w.heap.size) C8 rfl)).trans (frm_chg (X := fun k => k = w.heap.size) C9 rfl)
  have hkA : kindR A w.heap.size 27 := HX.out.kindR
  have HB9 : Hid (Bq ((V1.setCell ⟨w.heap.size, 0, none⟩ (.int .i64 ((j : Int) + 1))).setCell ⟨w.heap.size, 1, none⟩ (.int .i64 kk)) B K S) :=
    hB.out.frm HFr.out (fun k hk hi => by rw [hk] at hi; exact absurd (hkA.uniq hi) (by decide)) (fun hk => by have := hB.out.blk.kindR; rw [hk] at this; exact absurd (this.uniq hkA) (by decide)) (fun k hk e => hgb (e ▸ hk))
  clear hX1 hX8 hX9 C8 C9
  refine anyL_ready (rs := [8]) (by kernel_rfl) (by simp) (AllL.last rfl (by kernel_rfl) (fun K hK => ?_))
  go_simp
  refine hK.out _ _ ?_
  clear hK K
  try go_frame
  refine anyL_ready (rs := [9]) (by kernel_rfl) (by simp) (AllL.free rfl (by kernel_rfl) (fun K hK => ?_))
  go_simp
  refine hK.out _ _ ?_
  clear hK K
  try go_frame
  refine anyL_ready (rs := [10]) (by kernel_rfl) (by simp) (AllL.free rfl (by kernel_rfl) (fun K hK => ?_))
  go_simp
  refine hK.out _ _ ?_
  clear hK K
  try go_frame
  refine anyL_done (by kernel_rfl) ?_
  clear g0 f0 g1 f1
  generalize (V1.setCell ⟨w.heap.size, 0, none⟩ (.int .i64 ((j : Int) + 1))).setCell ⟨w.heap.size, 1, none⟩ (.int .i64 kk) = V3 at *
  have hlt := hw.size
  have hbc : V3.cell? ⟨gc, 0, none⟩ = some (.slice q 4 c) := by
    have h1 := HC.out A (Below.refl _ _)
    have h2 := HFr.out.other gc (by omega) (by omega)
    unfold World.cell? at h1 ⊢
    rw [h2]
    exact h1
  have hFw : Frm (bkB K) w V3 := (frm_below hw).young HFr.out (fun k hk _ => by omega)
  have c0 : V3.cell? ⟨w.heap.size, 0, none⟩ = some (.int .i64 ((j : Int) + 1)) := HX9.out.at rfl
  have c1 : V3.cell? ⟨w.heap.size, 1, none⟩ = some (.int .i64 kk) := HX9.out.at rfl
  have c2 : V3.cell? ⟨w.heap.size, 2, none⟩ = some (.int .i64 o.t) := HX9.out.at rfl
  have c3 : V3.cell? ⟨w.heap.size, 3, none⟩ = some (.int .i64 o.y) := HX9.out.at rfl
  have c4 : V3.cell? ⟨w.heap.size, 4, none⟩ = some (.int .i64 o.v) := HX9.out.at rfl
  obtain ⟨V4, hE4, hX4, hw4⟩ := blk1 V3 #[.int .i64 ((j : Int) + 1), .int .i64 kk, .int .i64 o.t, .int .i64 o.y, .int .i64 o.v] 27
  have hX4' : Blk V4 V3.heap.size (E5.f (sqO j o)).toArray 27 := by
    have := hX4
    rw [HKk.out] at this
    exact this
  have hbk3 : ∀ k, bkB K k → k < V3.heap.size := fun k hk => (HB9.out.bks hk).2
  have hFd := bafeed_ok i ((j : Int) + 1) ((j : Int) + 1) (.slice q 4 c) (.slice (some ⟨V3.heap.size, 0, none⟩) 1 1) odC [sqO j o] V4 (HB9.out.keep hw4) ((HS.out.frm hFw).frm (frm_below hw4)) (stay_eo (eo_single hX4') hbk3) hform hfi hx.symm
    (fun p hp => by rw [od_c p hp]; unfold lstP J64; dsimp only; omega) (fun x hx => by rw [List.mem_singleton.1 hx]; exact sqO_fit (by omega) ho) (by unfold J64; omega)
  have q00 : ∀ w : World, (binOp .eql 32 .nilIface .nilIface).run Try.prog w = .ok (.bool true) w := fun w => by kernel_rfl
  rw [hE0, errV_ok rfl] at hFd
  have HFw4 : Hid (Frm (bkB K) w V4) := hFw.trans (frm_below hw4)
  clear hX4 hX4' hbk3 hFw hw4 HS HX9 HB9 HFr HNx HC HX hB hform hfi
  go_wp2_with (go_at_call 11; refine hFd.mono ?_; rintro e V5 ⟨rfl, hB5, hF5⟩)
  go_ret
  exact ⟨by first | rfl | simp, hB5, HFw4.out.trans hF5⟩
theorem od_feed0 {B : Nat} {K : Bkk} {S : Bsn} {la lb : List Op5} {T : List Tok} (w : World) (h : Bq w B K S) (hI : OdI S la lb T) (hla : la.length ≤ 60) (hlb : lb.length ≤ 60) {o : Op5} (ho : Fit5 o) (gc : Nat) (q : Option Addr) (c : Nat)
    (hb : w.cell? ⟨gc, 0, none⟩ = some (.slice q 4 c)) (hgc : gc < w.heap.size) (hs : Stay E2 K w (.slice q 4 c) odC) :
    Calls Try.prog 26 #[bptr K, .int .i64 0, opV o, .pointer (some ⟨gc, 0, none⟩)] w fun e w' => ∃ S' T', e = .returned (.bool true) ∧ Bq w' B K S' ∧ OdI S' (la ++ [o]) lb T' ∧ Frm (bkB K) w w' := by
  have hT : T.length ≤ 500 := by have := od_few hI; omega
  obtain ⟨h1, h2⟩ := od_next0 hI (by omega) hT ho
  refine (od_cl 0 la.length o w h (f := flF la) (by rw [hI.fl]; rfl) (flF_nx la) (by omega) (od_form hI 0 la.length (by omega) (by omega) o) h1 ho gc q c hb hgc hs).mono ?_
  rintro e w' ⟨rfl, hB, hF⟩
  exact ⟨_, _, rfl, hB, h2, hF⟩
theorem od_feed1 {B : Nat} {K : Bkk} {S : Bsn} {la lb : List Op5} {T : List Tok} (w : World) (h : Bq w B K S) (hI : OdI S la lb T) (hla : la.length ≤ 60) (hlb : lb.length ≤ 60) {o : Op5} (ho : Fit5 o) (gc : Nat) (q : Option Addr) (c : Nat)
    (hb : w.cell? ⟨gc, 0, none⟩ = some (.slice q 4 c)) (hgc : gc < w.heap.size) (hs : Stay E2 K w (.slice q 4 c) odC) :
    Calls Try.prog 26 #[bptr K, .int .i64 1, opV o, .pointer (some ⟨gc, 0, none⟩)] w fun e w' => ∃ S' T', e = .returned (.bool true) ∧ Bq w' B K S' ∧ OdI S' la (lb ++ [o]) T' ∧ Frm (bkB K) w w' := by
  have hT : T.length ≤ 500 := by have := od_few hI; omega
  obtain ⟨h1, h2⟩ := od_next1 hI (by omega) hT ho
  refine (od_cl 1 lb.length o w h (f := flF lb) (by rw [hI.fl]; rfl) (flF_nx lb) (by omega) (od_form hI 1 lb.length (by omega) (by omega) o) h1 ho gc q c hb hgc hs).mono ?_
  rintro e w' ⟨rfl, hB, hF⟩
  exact ⟨_, _, rfl, hB, h2, hF⟩
theorem bq_apart {W W' : World} {B N : Nat} {Kx Ky : Bkk} {Sx Sy : Bsn} (hx : Bq W B Kx Sx) (hy : Bq W N Ky Sy) (hK : ∀ k, bkB Kx k → k < N) (hf : Frm (bkB Kx) W W') : Bq W' N Ky Sy :=
  hy.frm hf hx.noI (fun hk => by have := hK _ hk; have := hy.ge; omega) (fun k hk hk' => by have := hK _ hk'; have := (hy.bks hk).1; omega)
theorem bq_apart' {W W' : World} {B N : Nat} {Kx Ky : Bkk} {Sx Sy : Bsn} (hx : Bq W B Kx Sx) (hy : Bq W N Ky Sy) (hK : ∀ k, bkB Kx k → k < N) (hKb : Kx.b < N) (hf : Frm (bkB Ky) W W') : Bq W' B Kx Sx :=
  hx.frm hf hy.noI (fun hk => by have := (hy.bks hk).1; omega) (fun k hk hk' => by have := hK _ hk; have := (hy.bks hk').1; omega)
/-- Both basins' blocks. -/
def bk2 (Kx Ky : Bkk) (k : Nat) : Prop := bkB Kx k ∨ bkB Ky k
theorem take_snoc {α : Type} {l : List α} {i : Nat} {o : α} (h : l[i]? = some o) : l.take (i + 1) = l.take i ++ [o] := by rw [List.take_add_one, h]; rfl
theorem bs_nn (a b : Int) (w : World) : (Instr.buildSlice 23 2 #[(0, .int .i64 a), (1, .int .i64 b)]).run Try.prog w = .ok (.slice (some ⟨w.heap.size, 0, none⟩) 2 2) (w.alloc (.cells #[.int .i64 a, .int .i64 b] 3)) := by kernel_rfl
theorem is_two {W : World} {g : Nat} {x y : Int} (h : Blk W g #[.int .i64 x, .int .i64 y] 3) : Is W (.slice (some ⟨g, 0, none⟩) 2 2) [x, y] := by
  refine ⟨_, 2, g, 0, rfl, Nat.le_refl _, by omega, fun _ => rfl, fun _ => h.lt, fun j u hu => ?_⟩
  match j, hu with
  | 0, hu => cases hu; exact h.at rfl
  | 1, hu => cases hu; exact h.at rfl
  | j + 2, hu => simp at hu
end Go.Proofs.Ytoeilckeebojmaa
