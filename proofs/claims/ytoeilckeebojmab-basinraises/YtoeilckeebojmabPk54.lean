/-
  BasinRaises in memory: single things built.
-/
import Derived.Test.YtoeilckeebojmabPk52
import Derived.Test.YtoeilckeebojmabPk53
import Derived.Test.YtoeilckeebojmabPk40
namespace Go.Proofs.Ytoeilckeebojmab
open Go.RowKit Go.Maps
set_option linter.unusedVariables false
set_option maxRecDepth 100000

theorem ne00r (w : World) : (binOp .neq 27 .nilIface .nilIface).run Try.prog w = .ok (.bool false) w := by kernel_rfl
section
variable {α : Type} {E : En α}
theorem eo_single {e : TypeId} {W : World} {g : Nat} {x : α} (h : Blk W g (E.f x).toArray e) : EO E e W g (.slice (some ⟨g, 0, none⟩) 1 1) [x] := eo_of (n := 1) (by rw [E.fl_one1]; exact own_blkE h (Nat.le_refl _) (by rw [E.len]; omega) (by unfold maxLen; omega))
/-- One thing built as a slice. -/
theorem bsEW {o : Oper} {a : Act} {w : World} {K : Act → World → Prop} {Q : Exit → Act → World → Prop} (d : Option Tmp) (hd : o.dst = d) {t e : TypeId} {parts : Array (Nat × Operand)} (ho : o.op = .buildSlice t 1 parts) (x : α) {vs : Array (Nat × Value)} (hl : parts.map (fun (i, x) => (i, a.eval x)) = vs)
    (hrun : ∀ w : World, (Instr.buildSlice t 1 vs).run Try.prog w = .ok (.slice (some ⟨w.heap.size, 0, none⟩) 1 1) (w.alloc (.cells (E.f x).toArray e)))
    (h : ∀ W', EO E e W' w.heap.size (.slice (some ⟨w.heap.size, 0, none⟩) 1 1) [x] → Below w.heap.size w W' → K (a.put d (.slice (some ⟨w.heap.size, 0, none⟩) 1 1)) W') : o.wp Try.prog a w K Q := by
  subst hd
  unfold Oper.wp execOp
  simp only [ho, Sem.run_bind, hl, hrun, Result.andThen_ok]
  exact h _ (eo_single (Blk.new _ _ _)) ((Below.refl _ _).alloc (Nat.le_refl _) _)
end
theorem bs_pl1 (p : Int × Int) (w : World) : (Instr.buildSlice 23 1 #[(0, .agg #[.int .i64 p.1, .int .i64 p.2])]).run Try.prog w = .ok (.slice (some ⟨w.heap.size, 0, none⟩) 1 1) (w.alloc (.cells (E2.f p).toArray 35)) := bapl1 p.1 p.2 w
theorem bs_op1 (o : Op5) (w : World) : (Instr.buildSlice 22 1 #[(0, .agg #[.int .i64 o.s, .int .i64 o.k, .int .i64 o.t, .int .i64 o.y, .int .i64 o.v])]).run Try.prog w = .ok (.slice (some ⟨w.heap.size, 0, none⟩) 1 1) (w.alloc (.cells (E5.f o).toArray 32)) := by kernel_rfl
theorem stay_eo {α : Type} {E : En α} {K : Bkk} {e : TypeId} {w : World} {g B n c : Nat} {l : List α} (h : EO E e w B (.slice (some ⟨g, 0, none⟩) n c) l) (hx : ∀ k, bkB K k → k < B) : Stay E K w (.slice (some ⟨g, 0, none⟩) n c) l :=
  stay_young h.er (fun k hk => Nat.lt_of_lt_of_le (hx k hk) (World.ownsRow.lt h g rfl).1)
/-- One operation is fed. -/
theorem ra_feed {B : Nat} {K : Bkk} {S : Bsn} {T : List Tok} {j : Nat} (w : World) (h : Bq w B K S) (hI : RaI S T j) (hj : j < 1000) {o : Op5} (ho : Fit5 o) (vc vo : Value) (hc : Stay E2 K w vc [lstP]) (hO : Stay E5 K w vo [raO j o]) :
    Calls Try.prog 6 #[bptr K, .int .i64 0, .int .i64 ((j : Int) + 1), .int .i64 ((j : Int) + 1), vc, vo] w fun e w' => ∃ S' T', e = .returned .nilIface ∧ Bq w' B K S' ∧ RaI S' T' (j + 1) ∧ Frm (bkB K) w w' := by
  have hfl : 0 < S.fl.length := by rw [hI.fl]; omega
  have hfi := List.getElem?_eq_getElem hfl
  have hnx : (j : Int) + 1 = S.fl[0].nx := by
    have := hI.nx
    unfold nxOf at this
    rw [hfi] at this
    exact this.symm
  obtain ⟨h1, T', h2⟩ := ra_next hI hj ho
  have := bafeed_ok 0 ((j : Int) + 1) ((j : Int) + 1) vc vo [lstP] [raO j o] w h hc hO (ra_form hI hj o) hfi hnx (fun p hp => by rw [List.mem_singleton.1 hp]; unfold lstP J64; dsimp only; omega) (fun x hx => by rw [List.mem_singleton.1 hx]; exact ra_fit hj ho) (by unfold J64; omega)
  refine this.mono ?_
  rintro e w' ⟨rfl, hB, hF⟩
  exact ⟨_, _, by rw [h1]; rfl, hB, h2, hF⟩
/-- An entry's block. -/
theorem EE_AG (x : Ent) : entA x = AG 76 ek (entF x) := by
  apply Array.ext'
  exact entA_AG x
theorem er_empty {α : Type} (E : En α) (W : World) (cap : Nat) (q : Option Addr) (h : cap ≤ 9223372036854775807) : ER E W (.slice q 0 cap) [] := ⟨q, cap, 0, 0, rfl, Nat.zero_le _, h, fun h => absurd h (by simp), fun j u hu => by simp [En.fl] at hu⟩
theorem stay_eo2 {α : Type} {E : En α} {K : Bkk} {e : TypeId} {w : World} {B : Nat} {v : Value} {l : List α} (h : EO E e w B v l) (hx : ∀ k, bkB K k → k < B) : Stay E K w v l := by
  by_cases h0 : 0 < l.length
  · obtain ⟨g, cap, rfl⟩ := EO.at0 h h0
    exact stay_eo h hx
  · have hl : l = [] := List.length_eq_zero_iff.1 (by omega)
    subst hl
    obtain ⟨q, cap, g, off, rfl, h2, h3, h4, h5⟩ := h.er
    exact fun V _ => er_empty E V cap q h3
theorem bs_ent0 (w : World) : (Instr.buildSlice 37 0 #[]).run Try.prog w = .ok (.slice (some ⟨w.heap.size, 0, none⟩) 0 0) (w.alloc (.cells #[] 51)) := by kernel_rfl
theorem bs_ea1 (e : Nat → Int) (w : World) : (Instr.buildSlice 37 1 #[(0, .agg (EA e))]).run Try.prog w = .ok (.slice (some ⟨w.heap.size, 0, none⟩) 1 1) (w.alloc (.cells (EA e) 51)) := by kernel_rfl
theorem bs_ent1 (x : Ent) (w : World) : (Instr.buildSlice 37 1 #[(0, .agg (entA x))]).run Try.prog w = .ok (.slice (some ⟨w.heap.size, 0, none⟩) 1 1) (w.alloc (.cells (EE.f x).toArray 51)) := by
  have h : (EE.f x).toArray = entA x := by show (entA x).toList.toArray = _; simp
  rw [h, EE_AG]
  exact bs_ea1 _ w
section
variable {ops : Array Oper} {rest : List Oper} {o : Oper} {a : Act} {w : World} {Q : Exit → Act → World → Prop}
/-- An entry out of a row of entries. -/
theorem ld_EE (hgd : o.guard = none) {x : Operand} (ho : o.op = .load 51 x) {b q : Nat} {c : Ent} (hr : w.rangeAt b q (entA c).toList) (hx : a.eval x = .pointer (some ⟨b, q, none⟩))
    (h : wpList Try.prog ops Q rest (a.put o.dst (.agg (entA c))) w) : wpList Try.prog ops Q (o :: rest) a w := by
  rw [EE_AG] at hr h
  exact ld_ent hgd ho hr hx h
theorem st_EE (hgd : o.guard = none) {x y : Operand} (ho : o.op = .store 51 x y) {b : Nat} {c : Ent} {d : Nat → Int} {t : TypeId} (hB : Blk w b (EA d) t) (hx : a.eval x = .pointer (some ⟨b, 0, none⟩)) (hy : a.eval y = .agg (entA c))
    (h : ∀ W', Blk W' b (entA c) t → Chg b w W' → wpList Try.prog ops Q rest (a.put o.dst undef) W') : wpList Try.prog ops Q (o :: rest) a w := by
  rw [EE_AG] at hy h
  exact st_ent hgd ho hB hx hy h
theorem bs_EE (hw : Region.wanted o (yielded ops a.tmps) = true) {parts : Array (Nat × Operand)} (ho : o.op = .buildSlice 37 1 parts) (e : Ent) (hl : parts.map (fun (i, x) => (i, a.eval x)) = #[(0, .agg (entA e))])
    (h : ∀ W', EO EE 51 W' w.heap.size (.slice (some ⟨w.heap.size, 0, none⟩) 1 1) [e] → Below w.heap.size w W' → wpList Try.prog ops Q rest (a.put o.dst (.slice (some ⟨w.heap.size, 0, none⟩) 1 1)) W') : wpList Try.prog ops Q (o :: rest) a w := by
  unfold wpList
  rw [if_pos hw]
  left
  unfold Oper.wp execOp
  simp only [ho, Sem.run_bind, hl, bs_ent1, Result.andThen_ok]
  exact h _ (eo_single (Blk.new _ _ _)) ((Below.refl _ _).alloc (Nat.le_refl _) _)
end
theorem er_range {W : World} {n cap : Nat} {q : Option Addr} {l : List Ent} (h : ER EE W (.slice q n cap) l) (hn : 0 < n) : ∃ g off, q = some ⟨g, off, none⟩ ∧ g < W.heap.size ∧ ∀ j x, l[j]? = some x → W.rangeAt g (off + j * 76) (entA x).toList := by
  obtain ⟨q', cap', g, off, e, h2, h3, h4, h5⟩ := h.at
  injection e with e1 e2 e3
  subst e1
  obtain ⟨e4, e5⟩ := h4 (by omega)
  exact ⟨g, off, e4, e5, fun j x hx i u hu => h5 j x hx i u hu⟩
end Go.Proofs.Ytoeilckeebojmab
