/-
  estuarynum.Entries: the same entries.
  Single things built: places, operations, entries.
  gate's Check: which batches are in form.
  The document's basin: what it took, as tokens; Ids.
  The document's basin in memory; Raise.
  Plain mathematics: the document's basin beside the program's.
  The document's basin: New.
  The document's basin: Raise where a base is raised.
  The document's basin: Mark.
  The document's basin: a mark appended, a next number stored.
  Plain mathematics: Feed and Raise of the document's basin, beside the program's.
  The document's basin: pieces of Feed.
-/
import Derived.Test.YtogbhiklhcibdaaPk42
import Derived.Test.YtogbhiklhcibdaaPk43
import Derived.Test.YtogbhiklhcibdaaPk34
import Derived.Test.YtogbhiklhcibdaaPk45
import Derived.Test.YtogbhiklhcibdaaPk40
import Derived.Test.YtogbhiklhcibdaaPk08
import Derived.Test.YtogbhiklhcibdaaPk26
import Derived.Test.YtogbhiklhcibdaaPk39
namespace Go.Proofs.Ytogbhiklhcibdaa
open Go.RowKit
set_option linter.unusedVariables false
set_option maxRecDepth 100000

def entF (x : Ent) : Nat → Int := fun i => if i = 0 then x.1.1 else if i = 1 then x.1.2 else x.2 (i - 2)
theorem entA_AG (x : Ent) : (entA x).toList = (AG 76 ek (entF x)).toList := by
  apply List.ext_getElem?
  intro i
  by_cases hi : i < 76
  · rw [AG_at 76 ek _ i hi]
    unfold entA
    match i, hi with
    | 0, _ => rfl
    | 1, _ => rfl
    | i + 2, hi =>
      have h74 : i < 74 := by omega
      rw [List.getElem?_append_right (by simp)]
      simp only [List.length_cons, List.length_nil]
      rw [show i + 2 - (0 + 1 + 1) = i by omega, Array.getElem?_toList, CA_at x.2 i h74]
      unfold entF ek ck
      rw [if_neg (show ¬ i + 2 = 0 by omega), if_neg (show ¬ i + 2 = 1 by omega), show i + 2 - 2 = i by omega]
      by_cases e : i = 2
      · subst e; rfl
      · rw [if_neg e, if_neg (show ¬ i + 2 = 4 by omega)]
  · rw [List.getElem?_eq_none (by rw [Array.length_toList, entA_size]; omega), List.getElem?_eq_none (by rw [AG_len]; omega)]
theorem er_sr76 {W : World} {v : Value} {l : List Ent} (h : ER EE W v l) : SR 76 ek W v (l.map entF) := by
  obtain ⟨q, cap, g, off, h1, h2, h3, h4, h5⟩ := h.at
  refine ⟨q, cap, g, off, by rw [List.length_map]; exact h1, by rw [List.length_map]; exact h2, h3, fun h0 => (h4 (by rwa [List.length_map] at h0)).1, fun h0 => (h4 (by rwa [List.length_map] at h0)).2, ?_⟩
  intro j c hj i u hu
  rw [List.getElem?_map] at hj
  cases hx : l[j]? with
  | none => rw [hx] at hj; cases hj
  | some x =>
    rw [hx] at hj
    cases hj
    exact h5 j x hx i u (by show (entA x).toList[i]? = some u; rw [entA_AG]; exact hu)
/-- Entries that are the same: places, and cells number by number. -/
def EntQ (l m : List Ent) : Prop := l.length = m.length ∧ ∀ (j : Nat) (x y : Ent), l[j]? = some x → m[j]? = some y → x.1 = y.1 ∧ Eqv x.2 y.2
theorem entQ_eqL {l m : List Ent} (h : EntQ l m) : EqL 76 (l.map entF) (m.map entF) := by
  refine ⟨by rw [List.length_map, List.length_map]; exact h.1, fun j x y hx hy => ?_⟩
  rw [List.getElem?_map] at hx hy
  cases h1 : l[j]? with
  | none => rw [h1] at hx; cases hx
  | some a =>
    cases h2 : m[j]? with
    | none => rw [h2] at hy; cases hy
    | some b =>
      rw [h1] at hx
      rw [h2] at hy
      cases hx
      cases hy
      obtain ⟨e1, e2⟩ := h.2 j a b h1 h2
      intro i hi
      unfold entF
      rw [e1]
      split
      · rfl
      · split
        · rfl
        · exact e2 (i - 2) (by omega)
end Go.Proofs.Ytogbhiklhcibdaa
namespace Go.Proofs.Ytogbhiklhcibdaa
open Go.RowKit Go.Maps
set_option linter.unusedVariables false
set_option maxRecDepth 100000

theorem ne00r (w : World) : (binOp .neq 52 .nilIface .nilIface).run Try.prog w = .ok (.bool false) w := by kernel_rfl
section
variable {α : Type} {E : En α}
theorem eo_single {e : TypeId} {W : World} {g : Nat} {x : α} (h : Blk W g (E.f x).toArray e) : EO E e W g (.slice (some ⟨g, 0, none⟩) 1 1) [x] := eo_of (n := 1) (by rw [E.fl_one1]; exact own_blkE h (Nat.le_refl _) (by rw [E.len]; omega) (by unfold maxLen; omega))
/-- One thing built as a slice. -/
theorem bsEW {o : Oper} {a : Act} {w : World} {K : Act → World → Prop} {Q : Exit → Act → World → Prop} (d : Option Tmp) (hd : o.dst = d) {t e : TypeId} {parts : Array (Nat × Operand)} (ho : o.op = .buildSlice t 1 parts) (x : α) {vs : Array (Nat × Value)} (hl : parts.map (fun (i, x) => (i, a.eval x)) = vs)
    (hrun : ∀ w : World, (Instr.buildSlice t 1 vs).run Try.prog w = .ok (.slice (some ⟨w.heap.size, 0, none⟩) 1 1) (w.alloc (.cells (E.f x).toArray e)))
    (h : ∀ W', EO E e W' w.heap.size (.slice (some ⟨w.heap.size, 0, none⟩) 1 1) [x] → Below w.heap.size w W' → K (a.put d (.slice (some ⟨w.heap.size, 0, none⟩) 1 1)) W') : o.wp Try.prog a w K Q := by
  subst hd
  unfold Oper.wp execOp
  simp only [ho, Sem.run_bind, hl, hrun, Result.andThen_ok]
  exact h _ (eo_single (Blk.new _ _ _)) ((Below.refl _ _).alloc (Nat.le_refl _) _)
end
theorem bs_pl1 (p : Int × Int) (w : World) : (Instr.buildSlice 73 1 #[(0, .agg #[.int .i64 p.1, .int .i64 p.2])]).run Try.prog w = .ok (.slice (some ⟨w.heap.size, 0, none⟩) 1 1) (w.alloc (.cells (E2.f p).toArray 24)) := bapl1 p.1 p.2 w
theorem bs_op1 (o : Op5) (w : World) : (Instr.buildSlice 22 1 #[(0, .agg #[.int .i64 o.s, .int .i64 o.k, .int .i64 o.t, .int .i64 o.y, .int .i64 o.v])]).run Try.prog w = .ok (.slice (some ⟨w.heap.size, 0, none⟩) 1 1) (w.alloc (.cells (E5.f o).toArray 35)) := by kernel_rfl
theorem stay_eo {α : Type} {E : En α} {K : Bkk} {e : TypeId} {w : World} {g B n c : Nat} {l : List α} (h : EO E e w B (.slice (some ⟨g, 0, none⟩) n c) l) (hx : ∀ k, bkB K k → k < B) : Stay E K w (.slice (some ⟨g, 0, none⟩) n c) l :=
  stay_young h.er (fun k hk => Nat.lt_of_lt_of_le (hx k hk) (World.ownsRow.lt h g rfl).1)
/-- An entry's block. -/
theorem EE_AG (x : Ent) : entA x = AG 76 ek (entF x) := by
  apply Array.ext'
  exact entA_AG x
theorem er_empty {α : Type} (E : En α) (W : World) (cap : Nat) (q : Option Addr) (h : cap ≤ 9223372036854775807) : ER E W (.slice q 0 cap) [] := ⟨q, cap, 0, 0, rfl, Nat.zero_le _, h, fun h => absurd h (by simp), fun j u hu => by simp [En.fl] at hu⟩
theorem stay_eo2 {α : Type} {E : En α} {K : Bkk} {e : TypeId} {w : World} {B : Nat} {v : Value} {l : List α} (h : EO E e w B v l) (hx : ∀ k, bkB K k → k < B) : Stay E K w v l := by
  by_cases h0 : 0 < l.length
  · obtain ⟨g, cap, rfl⟩ := EO.at0 h h0
    exact stay_eo h hx
  · have hl : l = [] := List.length_eq_zero_iff.1 (by omega)
    subst hl
    obtain ⟨q, cap, g, off, rfl, h2, h3, h4, h5⟩ := h.er
    exact fun V _ => er_empty E V cap q h3
theorem bs_ent0 (w : World) : (Instr.buildSlice 46 0 #[]).run Try.prog w = .ok (.slice (some ⟨w.heap.size, 0, none⟩) 0 0) (w.alloc (.cells #[] 63)) := by kernel_rfl
theorem bs_ea1 (e : Nat → Int) (w : World) : (Instr.buildSlice 46 1 #[(0, .agg (EA e))]).run Try.prog w = .ok (.slice (some ⟨w.heap.size, 0, none⟩) 1 1) (w.alloc (.cells (EA e) 63)) := by kernel_rfl
theorem bs_ent1 (x : Ent) (w : World) : (Instr.buildSlice 46 1 #[(0, .agg (entA x))]).run Try.prog w = .ok (.slice (some ⟨w.heap.size, 0, none⟩) 1 1) (w.alloc (.cells (EE.f x).toArray 63)) := by
  have h : (EE.f x).toArray = entA x := by show (entA x).toList.toArray = _; simp
  rw [h, EE_AG]
  exact bs_ea1 _ w
section
variable {ops : Array Oper} {rest : List Oper} {o : Oper} {a : Act} {w : World} {Q : Exit → Act → World → Prop}
/-- An entry out of a row of entries. -/
theorem ld_EE (hgd : o.guard = none) {x : Operand} (ho : o.op = .load 63 x) {b q : Nat} {c : Ent} (hr : w.rangeAt b q (entA c).toList) (hx : a.eval x = .pointer (some ⟨b, q, none⟩))
    (h : wpList Try.prog ops Q rest (a.put o.dst (.agg (entA c))) w) : wpList Try.prog ops Q (o :: rest) a w := by
  rw [EE_AG] at hr h
  exact ld_ent hgd ho hr hx h
theorem st_EE (hgd : o.guard = none) {x y : Operand} (ho : o.op = .store 63 x y) {b : Nat} {c : Ent} {d : Nat → Int} {t : TypeId} (hB : Blk w b (EA d) t) (hx : a.eval x = .pointer (some ⟨b, 0, none⟩)) (hy : a.eval y = .agg (entA c))
    (h : ∀ W', Blk W' b (entA c) t → Chg b w W' → wpList Try.prog ops Q rest (a.put o.dst undef) W') : wpList Try.prog ops Q (o :: rest) a w := by
  rw [EE_AG] at hy h
  exact st_ent hgd ho hB hx hy h
theorem bs_EE (hw : Region.wanted o (yielded ops a.tmps) = true) {parts : Array (Nat × Operand)} (ho : o.op = .buildSlice 46 1 parts) (e : Ent) (hl : parts.map (fun (i, x) => (i, a.eval x)) = #[(0, .agg (entA e))])
    (h : ∀ W', EO EE 63 W' w.heap.size (.slice (some ⟨w.heap.size, 0, none⟩) 1 1) [e] → Below w.heap.size w W' → wpList Try.prog ops Q rest (a.put o.dst (.slice (some ⟨w.heap.size, 0, none⟩) 1 1)) W') : wpList Try.prog ops Q (o :: rest) a w := by
  unfold wpList
  rw [if_pos hw]
  left
  unfold Oper.wp execOp
  simp only [ho, Sem.run_bind, hl, bs_ent1, Result.andThen_ok]
  exact h _ (eo_single (Blk.new _ _ _)) ((Below.refl _ _).alloc (Nat.le_refl _) _)
end
theorem er_range {W : World} {n cap : Nat} {q : Option Addr} {l : List Ent} (h : ER EE W (.slice q n cap) l) (hn : 0 < n) : ∃ g off, q = some ⟨g, off, none⟩ ∧ g < W.heap.size ∧ ∀ j x, l[j]? = some x → W.rangeAt g (off + j * 76) (entA x).toList := by
  obtain ⟨q', cap', g, off, e, h2, h3, h4, h5⟩ := h.at
  injection e with e1 e2 e3
  subst e1
  obtain ⟨e4, e5⟩ := h4 (by omega)
  exact ⟨g, off, e4, e5, fun j x hx i u hu => h5 j x hx i u hu⟩
end Go.Proofs.Ytogbhiklhcibdaa
namespace Go.Proofs.Ytogbhiklhcibdaa
open Go.RowKit Go.Maps
set_option linter.unusedVariables false
set_option maxRecDepth 100000

/-- A batch. -/
structure Btc where
  ep : Int
  ln : Int
  fr : Int × Int
  tt : Int × Int
  en : List Ent
def btA (b : Btc) (v : Value) : Array Value := #[.int .i64 b.ep, .int .i64 b.ln, .int .i64 b.fr.1, .int .i64 b.fr.2, .int .i64 b.tt.1, .int .i64 b.tt.2, v]
/-- An entry in its place. -/
structure OkE (b : Btc) (i : Nat) (x : Ent) : Prop where
  up : ∀ y, 0 < i → b.en[i - 1]? = some y → pl y.1.1 y.1.2 x.1.1 x.1.2 = true
  lo : pl x.1.1 x.1.2 b.fr.1 b.fr.2 = false
  hi : pl x.1.1 x.1.2 b.tt.1 b.tt.2 = true
  ne : eqC x.2 zc = false
/-- A batch in form. -/
structure GkP (b : Btc) : Prop where
  ep : 1 ≤ b.ep
  ln : 0 ≤ b.ln
  ft : pl b.tt.1 b.tt.2 b.fr.1 b.fr.2 = false
  few : b.en.length ≤ 16
  all : ∀ i x, b.en[i]? = some x → OkE b i x
def GkE (P : Prop) (e : Ending) (y n : Value) : Prop := (P ∧ e = .returned y) ∨ (¬ P ∧ e = .returned n)
theorem gk_yes {P : Prop} {y n : Value} (h : P) : GkE P (.returned y) y n := .inl ⟨h, rfl⟩
theorem gk_no {P : Prop} {y n : Value} (h : ¬ P) : GkE P (.returned n) y n := .inr ⟨h, rfl⟩
theorem pw_eq (p0 p1 a0 a1 b0 b1 : Int) : pw p0 p1 a0 a1 b0 b1 = (!pl p0 p1 a0 a1 && pl p0 p1 b0 b1) := by
  rfl
/-- An entry's cell, in its block. -/
theorem ent_range {W : World} {b : Nat} {x : Ent} {t : TypeId} (h : Blk W b (entA x) t) : W.rangeAt b 2 (CA x.2).toList := by
  intro i u hu
  have h1 : (entA x)[2 + i]? = some u := by
    unfold entA
    rw [List.getElem?_toArray, List.getElem?_append_right (by simp)]
    simpa using hu
  exact h.at h1
set_option maxHeartbeats 2000000 in
theorem gcheck_any (b : Btc) (v : Value) (w : World) (hv : ER EE w v b.en) :
    Calls Try.prog 10 #[.agg (btA b v)] w fun e w' => GkE (GkP b) e .nilIface (Err 2) ∧ Below w.heap.size w w' := by
  obtain ⟨q, cap, ev⟩ := hv.form
  subst ev
  obtain ⟨ep, ln, ⟨f0, f1⟩, ⟨t0, t1⟩, L⟩ := b
  unfold btA
  try dsimp only at *
  generalize hn : L.length = n at *
  obtain ⟨A, hE, hX, hw⟩ := blk1 w #[.int .i64 ep, .int .i64 ln, .int .i64 f0, .int .i64 f1, .int .i64 t0, .int .i64 t1, .slice q n cap] 48
  have HV : Hid (ER EE w (.slice q n cap) L) := hv
  have x0 := hX.at (i := 0) rfl
  have x1 := hX.at (i := 1) rfl
  have x2 := hX.at (i := 2) rfl
  have x3 := hX.at (i := 3) rfl
  have x4 := hX.at (i := 4) rfl
  have x5 := hX.at (i := 5) rfl
  have x6 := hX.at (i := 6) rfl
  have hlt := hX.lt
  clear hv
  by_cases c1 : ep < 1
  · go_enter Try.func10, Try.ntmps10
    go_wp2_with fail
    go_ret
    exact ⟨gk_no (fun h => by have := h.ep; dsimp only at this; omega), hw⟩
  by_cases c2 : ln < 0
  · go_enter Try.func10, Try.ntmps10
    go_wp2_with fail
    go_ret
    exact ⟨gk_no (fun h => by have := h.ln; dsimp only at this; omega), hw⟩
  cases c3 : pl t0 t1 f0 f1
  · have HL : ∀ W, Calls Try.prog 24 #[Plc t0 t1, Plc f0 f1] W fun e w' => e = .returned (.bool false) ∧ Below W.heap.size W w' := fun W => by have := pless_any t0 t1 f0 f1 W; rw [c3] at this; exact this
    have HC3 : Hid (pl t0 t1 f0 f1 = false) := c3
    clear c3
    by_cases c4 : 16 < n
    · have c4' : (16 : Int) < (n : Int) := by omega
      go_enter Try.func10, Try.ntmps10
      go_wp2_with (go_at_call 24; refine (HL _).mono ?_; rintro e W2 ⟨rfl, b2⟩; have x6' := keep_cell b2 x6 hlt)
      go_ret
      exact ⟨gk_no (fun h => by have := h.few; dsimp only at this; omega), ab_trans hw (by assumption)⟩
    · have c4' : ¬ (16 : Int) < (n : Int) := by omega
      have HW : Hid (Blk A w.heap.size #[.int .i64 ep, .int .i64 ln, .int .i64 f0, .int .i64 f1, .int .i64 t0, .int .i64 t1, .slice q n cap] 48 ∧ Below w.heap.size w A) := ⟨hX, hw⟩
      go_enter Try.func10, Try.ntmps10
      go_upto_region 3 with (go_at_call 24; refine (HL _).mono ?_; rintro e W2 ⟨rfl, b2⟩; have x6' := keep_cell b2 x6 hlt)
      have hX2 := HW.out.1.keep b2
      have hw2 := ab_trans HW.out.2 b2
      have y6 := hX2.at (i := 6) rfl
      have HX2 : Hid (∀ V, Below W2.heap.size W2 V → Blk V w.heap.size #[.int .i64 ep, .int .i64 ln, .int .i64 f0, .int .i64 f1, .int .i64 t0, .int .i64 t1, .slice q n cap] 48 ∧ Below w.heap.size w V) := fun V hb => ⟨hX2.keep hb, ab_trans hw2 hb⟩
      have hlt2 := hX2.lt
      clear x0 x1 x2 x3 x4 x5 x6 x6' hX hX2 hw hw2 hE b2 HW HL hlt
      generalize hbx : w.heap.size = bx at hlt2 y6
      have HX3 : Hid (∀ V, Below W2.heap.size W2 V → Blk V bx #[.int .i64 ep, .int .i64 ln, .int .i64 f0, .int .i64 f1, .int .i64 t0, .int .i64 t1, .slice q n cap] 48 ∧ Below w.heap.size w V) := fun V hb => by rw [← hbx]; exact HX2.out V hb
      skip
      clear hbx HX2
      go_wp2_with fail
      go_loopw [31] (fun z wr => ∃ k : Nat, k ≤ n ∧ z = .int .i64 (k : Int) ∧ (∀ i x, i < k → L[i]? = some x → OkE ⟨ep, ln, (f0, f1), (t0, t1), L⟩ i x) ∧ Below W2.heap.size W2 wr) (fun z _ => n - (intOf z).toNat)
      case atStart => exact ⟨0, by omega, rfl, fun i x h => by omega, Below.refl _ _⟩
      case round =>
        clear y6
        obtain ⟨k, hk, rfl, hall, hb⟩ := hrel
        by_cases ck : k = n
        · have HY : Hid (GkP ⟨ep, ln, (f0, f1), (t0, t1), L⟩) := ⟨by show 1 ≤ ep; omega, by show 0 ≤ ln; omega, HC3.out, by show L.length ≤ 16; omega, fun i x hx => hall i x (by have := (List.getElem?_eq_some_iff.1 hx).1; dsimp only at this; omega) hx⟩
          subst ck
          have hbw := (HX3.out wr hb).2
          go_wp2_with fail
          go_ret
          exact ⟨gk_yes HY.out, hbw⟩
        · obtain ⟨x, hx⟩ : ∃ x, L[k]? = some x := ⟨L[k]'(by omega), List.getElem?_eq_getElem (by omega)⟩
          have hki : (k : Int) < (n : Int) := by omega
          have hw2 := (HX3.out wr hb).2
          obtain ⟨gw, ow, eqw, hgw, hrw⟩ := er_range (HV.out.keep hw2) (by omega)
          have hr0 := hrw k x hx
          subst eqw
          have HNo : Hid (¬ OkE ⟨ep, ln, (f0, f1), (t0, t1), L⟩ k x → ¬ GkP ⟨ep, ln, (f0, f1), (t0, t1), L⟩) := fun h1 h2 => h1 (h2.all k x hx)
          have HAll : Hid (OkE ⟨ep, ln, (f0, f1), (t0, t1), L⟩ k x → ∀ i y, i < k + 1 → L[i]? = some y → OkE ⟨ep, ln, (f0, f1), (t0, t1), L⟩ i y) := fun h i y hi hy => by
            by_cases e : i = k
            · subst e; rw [hx] at hy; cases hy; exact h
            · exact hall i y (by omega) hy
          clear hall
          go_upto_region 6 with (first
            | (refine ld_EE rfl rfl hr0 rfl ?_)
            | (refine al_ent rfl rfl ?_; intro Wb eb hXb bb; clear eb)
            | (refine st_EE rfl rfl hXb rfl rfl ?_; intro Wc hXc Cc; go_frame))
          have bwc : Below wr.heap.size wr Wc := ab_chg bb Cc (Nat.le_refl _)
          have hbc := ab_trans hb bwc
          have HXc : Hid (∀ V, Below Wc.heap.size Wc V → Blk V wr.heap.size (entA x) 63 ∧ Below W2.heap.size W2 V) := fun V hv => ⟨hXc.keep hv, ab_trans hbc hv⟩
          have HRw : Hid (∀ y, 0 < k → L[k - 1]? = some y → ∀ V, Below Wc.heap.size Wc V → V.cell? ⟨gw, ow + (k - 1) * 76, none⟩ = some (.int .i64 y.1.1) ∧ V.cell? ⟨gw, ow + (k - 1) * 76 + 1, none⟩ = some (.int .i64 y.1.2)) := fun y h0 hy V hv => by
            have h1 := hrw (k - 1) y hy 0 (.int .i64 y.1.1) rfl
            have h2 := hrw (k - 1) y hy 1 (.int .i64 y.1.2) rfl
            rw [Nat.add_zero] at h1
            exact ⟨keep_cell (ab_trans bwc hv) h1 hgw, keep_cell (ab_trans bwc hv) h2 hgw⟩
          clear hrw hr0 hXb bb Cc hXc bwc hbc hb hw2
          generalize wr.heap.size = gx at *
          have hgx : gx < Wc.heap.size := (HXc.out Wc (Below.refl _ _)).1.lt
          have g0 : ∀ y : Cls Wc, y.val.cell? ⟨gx, 0, none⟩ = some (.int .i64 x.1.1) := fun y => (HXc.out _ y.prop).1.at rfl
          have g1 : ∀ y : Cls Wc, y.val.cell? ⟨gx, 1, none⟩ = some (.int .i64 x.1.2) := fun y => (HXc.out _ y.prop).1.at rfl
          have b6 : ∀ y : Cls Wc, y.val.cell? ⟨bx, 6, none⟩ = some (.slice (some ⟨gw, ow, none⟩) n cap) := fun y => (HX3.out _ (HXc.out _ y.prop).2).1.at rfl
          have HBx : Hid (∀ V, Below Wc.heap.size Wc V → V.cell? ⟨bx, 2, none⟩ = some (.int .i64 f0) ∧ V.cell? ⟨bx, 3, none⟩ = some (.int .i64 f1) ∧ V.cell? ⟨bx, 4, none⟩ = some (.int .i64 t0) ∧ V.cell? ⟨bx, 5, none⟩ = some (.int .i64 t1) ∧ V.cell? ⟨gx, 0, none⟩ = some (.int .i64 x.1.1) ∧ V.cell? ⟨gx, 1, none⟩ = some (.int .i64 x.1.2) ∧ V.rangeAt gx 2 (CA x.2).toList) := fun V hb => by
            obtain ⟨h1, h2⟩ := HXc.out V hb
            have h3 := (HX3.out V h2).1
            exact ⟨h3.at rfl, h3.at rfl, h3.at rfl, h3.at rfl, h1.at rfl, h1.at rfl, ent_range h1⟩
          have HX4 : Hid (∀ V, Below Wc.heap.size Wc V → Below w.heap.size w V ∧ Below W2.heap.size W2 V) := fun V hb => ⟨(HX3.out _ (HXc.out V hb).2).2, (HXc.out V hb).2⟩
          obtain ⟨⟨xa, xb⟩, xc⟩ := x
          try dsimp only at g0 g1 HRw HBx HNo HAll
          by_cases c3 : k = 0
          · have c3' : Hid (decide (0 < k) = false) := decide_eq_false (by omega)
            have HK0 : Hid (k = 0) := c3
            have c3e : ((k : Int) == 0) = true := by simp [c3]
            clear HRw c3
            go_upto_region 6 with fail
            have HZ := cls_some Wc
            refine wp_region_below (by kernel_rfl) (by kernel_rfl) ?_
            repeat (go_big_quiet_step (fail))
            refine wpQuiet_nil ?_
            clear g0 g1 b6 HZ
            rintro V ⟨⟨V', hV⟩, rfl⟩
            try dsimp only
            cases hpw : pw xa xb f0 f1 t0 t1
            · have hWi : ∀ W, Calls Try.prog 26 #[Plc xa xb, Plc f0 f1, Plc t0 t1] W fun e w' => e = .returned (.bool false) ∧ Below W.heap.size W w' := fun W => by have := within_any xa xb f0 f1 t0 t1 W; rw [hpw] at this; exact this
              have HPw : Hid (pw xa xb f0 f1 t0 t1 = false) := hpw
              have d0 : ∀ y : Cls V, y.val.cell? ⟨gx, 0, none⟩ = some (.int .i64 xa) := fun y => (HBx.out _ (ab_trans hV y.prop)).2.2.2.2.1
              have d1 : ∀ y : Cls V, y.val.cell? ⟨gx, 1, none⟩ = some (.int .i64 xb) := fun y => (HBx.out _ (ab_trans hV y.prop)).2.2.2.2.2.1
              have d2 : ∀ y : Cls V, y.val.cell? ⟨bx, 2, none⟩ = some (.int .i64 f0) := fun y => (HBx.out _ (ab_trans hV y.prop)).1
              have d3 : ∀ y : Cls V, y.val.cell? ⟨bx, 3, none⟩ = some (.int .i64 f1) := fun y => (HBx.out _ (ab_trans hV y.prop)).2.1
              have d4 : ∀ y : Cls V, y.val.cell? ⟨bx, 4, none⟩ = some (.int .i64 t0) := fun y => (HBx.out _ (ab_trans hV y.prop)).2.2.1
              have d5 : ∀ y : Cls V, y.val.cell? ⟨bx, 5, none⟩ = some (.int .i64 t1) := fun y => (HBx.out _ (ab_trans hV y.prop)).2.2.2.1
              clear hpw
              go_upto_region 7 with fail
              have HZ := cls_some V
              refine wp_region_below (by kernel_rfl) (by kernel_rfl) ?_
              repeat (go_big_quiet_step (first | (go_at_call 26; exact calls_below (hWi _))))

              refine wpQuiet_nil ?_
              rintro V2 ⟨⟨V3, hV3⟩, rfl⟩
              try dsimp only
              have hV4 := ab_trans hV hV3

              have hbw := (HX4.out _ hV4).1
              go_wp2_with fail
              go_ret
              exact ⟨gk_no (HNo.out (fun h => (by have h1 := h.lo; have h2 := h.hi; have := HPw.out; rw [pw_eq] at this; dsimp only at h1 h2; rw [h1, h2] at this; cases this))), hbw⟩
            · have hWi : ∀ W, Calls Try.prog 26 #[Plc xa xb, Plc f0 f1, Plc t0 t1] W fun e w' => e = .returned (.bool true) ∧ Below W.heap.size W w' := fun W => by have := within_any xa xb f0 f1 t0 t1 W; rw [hpw] at this; exact this
              have HPw : Hid (pw xa xb f0 f1 t0 t1 = true) := hpw
              have d0 : ∀ y : Cls V, y.val.cell? ⟨gx, 0, none⟩ = some (.int .i64 xa) := fun y => (HBx.out _ (ab_trans hV y.prop)).2.2.2.2.1
              have d1 : ∀ y : Cls V, y.val.cell? ⟨gx, 1, none⟩ = some (.int .i64 xb) := fun y => (HBx.out _ (ab_trans hV y.prop)).2.2.2.2.2.1
              have d2 : ∀ y : Cls V, y.val.cell? ⟨bx, 2, none⟩ = some (.int .i64 f0) := fun y => (HBx.out _ (ab_trans hV y.prop)).1
              have d3 : ∀ y : Cls V, y.val.cell? ⟨bx, 3, none⟩ = some (.int .i64 f1) := fun y => (HBx.out _ (ab_trans hV y.prop)).2.1
              have d4 : ∀ y : Cls V, y.val.cell? ⟨bx, 4, none⟩ = some (.int .i64 t0) := fun y => (HBx.out _ (ab_trans hV y.prop)).2.2.1
              have d5 : ∀ y : Cls V, y.val.cell? ⟨bx, 5, none⟩ = some (.int .i64 t1) := fun y => (HBx.out _ (ab_trans hV y.prop)).2.2.2.1
              clear hpw
              go_upto_region 7 with fail
              have HZ := cls_some V
              refine wp_region_below (by kernel_rfl) (by kernel_rfl) ?_
              repeat (go_big_quiet_step (first | (go_at_call 26; exact calls_below (hWi _))))
              cases hqz : eqC xc zc
              · refine quiet_val rfl _ (fun w' hw' => by obtain ⟨z, hz⟩ := hw'; exact ldm_oper rfl rfl (hz ▸ (HBx.out _ (ab_trans hV z.prop)).2.2.2.2.2.2)) ?_
                simp only [Act.put, List.setIfInBounds_toArray, List.set_cons_succ, List.set_cons_zero]
                repeat (go_big_quiet_step (first | (go_at_call 27; exact calls_below (unit_any _))))
                refine quiet_val rfl _ (fun w' _ => eq_oper (c := xc) (d := zc) rfl rfl rfl w') ?_
                simp only [Act.put, List.setIfInBounds_toArray, List.set_cons_succ, List.set_cons_zero]
                rw [hqz]
                repeat (go_big_quiet_step (fail))

                refine wpQuiet_nil ?_
                rintro V2 ⟨⟨V3, hV3⟩, rfl⟩
                try dsimp only
                have hV4 := ab_trans hV hV3

                have hbw := (HX4.out _ hV4).2
                go_wp2_with fail
                go_roundw
                case rel => exact ⟨k + 1, by omega, by go_num, HAll.out ⟨fun y h0 _ => absurd h0 (by have := HK0.out; omega), by have := HPw.out; rw [pw_eq] at this; simp only [Bool.and_eq_true, Bool.not_eq_true'] at this; exact this.1, by have := HPw.out; rw [pw_eq] at this; simp only [Bool.and_eq_true, Bool.not_eq_true'] at this; exact this.2, hqz⟩, hbw⟩
                case measure => simp [intOf]; omega
              · refine quiet_val rfl _ (fun w' hw' => by obtain ⟨z, hz⟩ := hw'; exact ldm_oper rfl rfl (hz ▸ (HBx.out _ (ab_trans hV z.prop)).2.2.2.2.2.2)) ?_
                simp only [Act.put, List.setIfInBounds_toArray, List.set_cons_succ, List.set_cons_zero]
                repeat (go_big_quiet_step (first | (go_at_call 27; exact calls_below (unit_any _))))
                refine quiet_val rfl _ (fun w' _ => eq_oper (c := xc) (d := zc) rfl rfl rfl w') ?_
                simp only [Act.put, List.setIfInBounds_toArray, List.set_cons_succ, List.set_cons_zero]
                rw [hqz]
                repeat (go_big_quiet_step (fail))

                refine wpQuiet_nil ?_
                rintro V2 ⟨⟨V3, hV3⟩, rfl⟩
                try dsimp only
                have hV4 := ab_trans hV hV3

                have hbw := (HX4.out _ hV4).1
                go_wp2_with fail
                go_ret
                exact ⟨gk_no (HNo.out (fun h => (by have h1 := h.ne; dsimp only at h1; rw [hqz] at h1; cases h1))), hbw⟩
          · obtain ⟨j, rfl⟩ : ∃ j, k = j + 1 := ⟨k - 1, by omega⟩
            obtain ⟨y, hy⟩ : ∃ y, L[j]? = some y := ⟨L[j]'(by omega), List.getElem?_eq_getElem (by omega)⟩
            have c3e : (((j + 1 : Nat) : Int) == 0) = false := by simp; omega
            have c3f : ((j : Int) + 1 == 0) = false := by simp; omega
            have c3g : decide (j + 1 = 0) = false := by simp
            have c3h : decide ((j : Int) + 1 = 0) = false := by simp; omega
            have c3i : (j + 1 == 0) = false := by simp
            have hjn : (j : Int) < (n : Int) := by omega
            have hRy := HRw.out y (by omega) (by rw [Nat.add_sub_cancel]; exact hy)
            rw [Nat.add_sub_cancel] at hRy
            have HPy : Hid (L[j]? = some y) := hy
            obtain ⟨⟨ya, yb⟩, yc⟩ := y
            have p0 : ∀ z : Cls Wc, z.val.cell? ⟨gw, ow + j * 76, none⟩ = some (.int .i64 ya) := fun z => (hRy _ z.prop).1
            have p1 : ∀ z : Cls Wc, z.val.cell? ⟨gw, ow + j * 76 + 1, none⟩ = some (.int .i64 yb) := fun z => (hRy _ z.prop).2
            clear HRw c3 hRy hy
            cases hpl : pl ya yb xa xb
            · have HP0 : Hid (pl ya yb xa xb = false) := hpl
              go_upto_region 6 with fail
              have HZ := cls_some Wc
              refine wp_region_below (by kernel_rfl) (by kernel_rfl) ?_
              repeat (go_big_quiet_step (first | (go_at_call 24; exact calls_below (pless_any _ _ _ _ _))))
              refine wpQuiet_nil ?_
              clear g0 g1 b6 HZ p0 p1
              rintro V ⟨⟨V', hV⟩, rfl⟩
              try dsimp only
              rw [hpl]
              clear hpl
              go_upto_region 7 with fail
              have HZ := cls_some V
              refine wp_region_below (by kernel_rfl) (by kernel_rfl) ?_
              repeat (go_big_quiet_step (fail))
              refine wpQuiet_nil ?_
              rintro V2 ⟨⟨V3, hV3⟩, rfl⟩
              try dsimp only
              have hV4 := ab_trans hV hV3
              have hbw := (HX4.out _ hV4).1
              go_wp2_with fail
              go_ret
              exact ⟨gk_no (HNo.out (fun h => (by have h1 := h.up _ (by omega) (by rw [Nat.add_sub_cancel]; exact HPy.out); dsimp only at h1; rw [HP0.out] at h1; cases h1))), hbw⟩
            · have HP0 : Hid (pl ya yb xa xb = true) := hpl
              go_upto_region 6 with fail
              have HZ := cls_some Wc
              refine wp_region_below (by kernel_rfl) (by kernel_rfl) ?_
              repeat (go_big_quiet_step (first | (go_at_call 24; exact calls_below (pless_any _ _ _ _ _))))
              refine wpQuiet_nil ?_
              clear g0 g1 b6 HZ p0 p1
              rintro V ⟨⟨V', hV⟩, rfl⟩
              try dsimp only
              rw [hpl]
              clear hpl
              cases hpw : pw xa xb f0 f1 t0 t1
              · have hWi : ∀ W, Calls Try.prog 26 #[Plc xa xb, Plc f0 f1, Plc t0 t1] W fun e w' => e = .returned (.bool false) ∧ Below W.heap.size W w' := fun W => by have := within_any xa xb f0 f1 t0 t1 W; rw [hpw] at this; exact this
                have HPw : Hid (pw xa xb f0 f1 t0 t1 = false) := hpw
                have d0 : ∀ y : Cls V, y.val.cell? ⟨gx, 0, none⟩ = some (.int .i64 xa) := fun y => (HBx.out _ (ab_trans hV y.prop)).2.2.2.2.1
                have d1 : ∀ y : Cls V, y.val.cell? ⟨gx, 1, none⟩ = some (.int .i64 xb) := fun y => (HBx.out _ (ab_trans hV y.prop)).2.2.2.2.2.1
                have d2 : ∀ y : Cls V, y.val.cell? ⟨bx, 2, none⟩ = some (.int .i64 f0) := fun y => (HBx.out _ (ab_trans hV y.prop)).1
                have d3 : ∀ y : Cls V, y.val.cell? ⟨bx, 3, none⟩ = some (.int .i64 f1) := fun y => (HBx.out _ (ab_trans hV y.prop)).2.1
                have d4 : ∀ y : Cls V, y.val.cell? ⟨bx, 4, none⟩ = some (.int .i64 t0) := fun y => (HBx.out _ (ab_trans hV y.prop)).2.2.1
                have d5 : ∀ y : Cls V, y.val.cell? ⟨bx, 5, none⟩ = some (.int .i64 t1) := fun y => (HBx.out _ (ab_trans hV y.prop)).2.2.2.1
                clear hpw
                go_upto_region 7 with fail
                have HZ := cls_some V
                refine wp_region_below (by kernel_rfl) (by kernel_rfl) ?_
                repeat (go_big_quiet_step (first | (go_at_call 26; exact calls_below (hWi _))))

                refine wpQuiet_nil ?_
                rintro V2 ⟨⟨V3, hV3⟩, rfl⟩
                try dsimp only
                have hV4 := ab_trans hV hV3

                have hbw := (HX4.out _ hV4).1
                go_wp2_with fail
                go_ret
                exact ⟨gk_no (HNo.out (fun h => (by have h1 := h.lo; have h2 := h.hi; have := HPw.out; rw [pw_eq] at this; dsimp only at h1 h2; rw [h1, h2] at this; cases this))), hbw⟩
              · have hWi : ∀ W, Calls Try.prog 26 #[Plc xa xb, Plc f0 f1, Plc t0 t1] W fun e w' => e = .returned (.bool true) ∧ Below W.heap.size W w' := fun W => by have := within_any xa xb f0 f1 t0 t1 W; rw [hpw] at this; exact this
                have HPw : Hid (pw xa xb f0 f1 t0 t1 = true) := hpw
                have d0 : ∀ y : Cls V, y.val.cell? ⟨gx, 0, none⟩ = some (.int .i64 xa) := fun y => (HBx.out _ (ab_trans hV y.prop)).2.2.2.2.1
                have d1 : ∀ y : Cls V, y.val.cell? ⟨gx, 1, none⟩ = some (.int .i64 xb) := fun y => (HBx.out _ (ab_trans hV y.prop)).2.2.2.2.2.1
                have d2 : ∀ y : Cls V, y.val.cell? ⟨bx, 2, none⟩ = some (.int .i64 f0) := fun y => (HBx.out _ (ab_trans hV y.prop)).1
                have d3 : ∀ y : Cls V, y.val.cell? ⟨bx, 3, none⟩ = some (.int .i64 f1) := fun y => (HBx.out _ (ab_trans hV y.prop)).2.1
                have d4 : ∀ y : Cls V, y.val.cell? ⟨bx, 4, none⟩ = some (.int .i64 t0) := fun y => (HBx.out _ (ab_trans hV y.prop)).2.2.1
                have d5 : ∀ y : Cls V, y.val.cell? ⟨bx, 5, none⟩ = some (.int .i64 t1) := fun y => (HBx.out _ (ab_trans hV y.prop)).2.2.2.1
                clear hpw
                go_upto_region 7 with fail
                have HZ := cls_some V
                refine wp_region_below (by kernel_rfl) (by kernel_rfl) ?_
                repeat (go_big_quiet_step (first | (go_at_call 26; exact calls_below (hWi _))))
                cases hqz : eqC xc zc
                · refine quiet_val rfl _ (fun w' hw' => by obtain ⟨z, hz⟩ := hw'; exact ldm_oper rfl rfl (hz ▸ (HBx.out _ (ab_trans hV z.prop)).2.2.2.2.2.2)) ?_
                  simp only [Act.put, List.setIfInBounds_toArray, List.set_cons_succ, List.set_cons_zero]
                  repeat (go_big_quiet_step (first | (go_at_call 27; exact calls_below (unit_any _))))
                  refine quiet_val rfl _ (fun w' _ => eq_oper (c := xc) (d := zc) rfl rfl rfl w') ?_
                  simp only [Act.put, List.setIfInBounds_toArray, List.set_cons_succ, List.set_cons_zero]
                  rw [hqz]
                  repeat (go_big_quiet_step (fail))

                  refine wpQuiet_nil ?_
                  rintro V2 ⟨⟨V3, hV3⟩, rfl⟩
                  try dsimp only
                  have hV4 := ab_trans hV hV3

                  have hbw := (HX4.out _ hV4).2
                  go_wp2_with fail
                  go_roundw
                  case rel => exact ⟨j + 1 + 1, by omega, by go_num, HAll.out ⟨fun y _ h1 => by rw [Nat.add_sub_cancel] at h1; have h2 := HPy.out; dsimp only at h1; rw [h2] at h1; cases h1; exact HP0.out, by have := HPw.out; rw [pw_eq] at this; simp only [Bool.and_eq_true, Bool.not_eq_true'] at this; exact this.1, by have := HPw.out; rw [pw_eq] at this; simp only [Bool.and_eq_true, Bool.not_eq_true'] at this; exact this.2, hqz⟩, hbw⟩
                  case measure => simp [intOf]; omega
                · refine quiet_val rfl _ (fun w' hw' => by obtain ⟨z, hz⟩ := hw'; exact ldm_oper rfl rfl (hz ▸ (HBx.out _ (ab_trans hV z.prop)).2.2.2.2.2.2)) ?_
                  simp only [Act.put, List.setIfInBounds_toArray, List.set_cons_succ, List.set_cons_zero]
                  repeat (go_big_quiet_step (first | (go_at_call 27; exact calls_below (unit_any _))))
                  refine quiet_val rfl _ (fun w' _ => eq_oper (c := xc) (d := zc) rfl rfl rfl w') ?_
                  simp only [Act.put, List.setIfInBounds_toArray, List.set_cons_succ, List.set_cons_zero]
                  rw [hqz]
                  repeat (go_big_quiet_step (fail))

                  refine wpQuiet_nil ?_
                  rintro V2 ⟨⟨V3, hV3⟩, rfl⟩
                  try dsimp only
                  have hV4 := ab_trans hV hV3

                  have hbw := (HX4.out _ hV4).1
                  go_wp2_with fail
                  go_ret
                  exact ⟨gk_no (HNo.out (fun h => (by have h1 := h.ne; dsimp only at h1; rw [hqz] at h1; cases h1))), hbw⟩
  · have HL : ∀ W, Calls Try.prog 24 #[Plc t0 t1, Plc f0 f1] W fun e w' => e = .returned (.bool true) ∧ Below W.heap.size W w' := fun W => by have := pless_any t0 t1 f0 f1 W; rw [c3] at this; exact this
    have HC3 : Hid (pl t0 t1 f0 f1 = true) := c3
    clear c3
    go_enter Try.func10, Try.ntmps10
    go_wp2_with (go_at_call 24; refine (HL _).mono ?_; rintro e W2 ⟨rfl, b2⟩)
    go_ret
    exact ⟨gk_no (fun h => by have := h.ft; rw [HC3.out] at this; cases this), ab_trans hw (by assumption)⟩
end Go.Proofs.Ytogbhiklhcibdaa
namespace Go.Proofs.Ytogbhiklhcibdaa
open Go.RowKit
set_option linter.unusedVariables false
set_option maxRecDepth 100000

/-- The names of what was taken, each once. -/
def idsT (T : List Tok) : List Kyy := T.foldl (fun out x => addK out x.1) []
theorem idsT_snoc (T : List Tok) (x : Tok) : idsT (T ++ [x]) = addK (idsT T) x.1 := by unfold idsT; rw [List.foldl_append]; rfl
theorem idsT_take {T : List Tok} {k : Nat} {x : Tok} (h : T[k]? = some x) : idsT (T.take (k + 1)) = addK (idsT (T.take k)) x.1 := by
  rw [List.take_add_one, h]
  exact idsT_snoc _ _
theorem idsT_len (T : List Tok) : (idsT T).length ≤ T.length := by
  have : ∀ n, n ≤ T.length → (idsT (T.take n)).length ≤ n := by
    intro n
    induction n with
    | zero => intro _; simp [idsT]
    | succ n ih =>
      intro h
      have hx := List.getElem?_eq_getElem (l := T) (i := n) (by omega)
      rw [idsT_take hx]
      have h1 := ih (by omega)
      have h2 : (addK (idsT (T.take n)) T[n].1).length ≤ (idsT (T.take n)).length + 1 := by
        unfold addK
        split
        · omega
        · simp
      omega
  have h := this T.length (Nat.le_refl _)
  rwa [List.take_length] at h
theorem mem_idsT {T : List Tok} {k : Kyy} : k ∈ idsT T ↔ ∃ x ∈ T, x.1 = k := by
  have : ∀ n, n ≤ T.length → (k ∈ idsT (T.take n) ↔ ∃ x ∈ T.take n, x.1 = k) := by
    intro n
    induction n with
    | zero => intro _; simp [idsT]
    | succ n ih =>
      intro h
      have hx := List.getElem?_eq_getElem (l := T) (i := n) (by omega)
      rw [idsT_take hx, mem_addK, ih (by omega), List.take_add_one, hx]
      constructor
      · rintro (⟨y, hy, e⟩ | e)
        · exact ⟨y, List.mem_append_left _ hy, e⟩
        · exact ⟨T[n], List.mem_append_right _ (by simp), e.symm⟩
      · rintro ⟨y, hy, e⟩
        rcases List.mem_append.1 hy with hy | hy
        · exact .inl ⟨y, hy, e⟩
        · simp at hy; subst hy; exact .inr e.symm
  have h := this T.length (Nat.le_refl _)
  rwa [List.take_length] at h
theorem idsT_nodup (T : List Tok) : (idsT T).Nodup := by
  have : ∀ n, n ≤ T.length → (idsT (T.take n)).Nodup := by
    intro n
    induction n with
    | zero => intro _; simp [idsT]
    | succ n ih =>
      intro h
      have hx := List.getElem?_eq_getElem (l := T) (i := n) (by omega)
      rw [idsT_take hx]
      unfold addK
      split
      · exact ih (by omega)
      · rename_i hn
        rw [List.nodup_append]
        exact ⟨ih (by omega), by simp, fun a ha b hb => by simp at hb; subst hb; exact fun e => hn (e ▸ ha)⟩
  have h := this T.length (Nat.le_refl _)
  rwa [List.take_length] at h

/-- What was taken, as it lies. -/
def tkA (x : Tok) : Array Value := #[.int .i64 x.1.1, .int .i64 x.1.2.1, .int .i64 x.1.2.2, .int .i64 x.2.1, .int .i64 x.2.2.s, .int .i64 x.2.2.k, .int .i64 x.2.2.t, .int .i64 x.2.2.y, .int .i64 x.2.2.v]
def E9 : En Tok := ⟨9, fun x => (tkA x).toList, fun _ => rfl, fun x u hu => by simp [tkA] at hu; rcases hu with rfl | rfl | rfl | rfl | rfl | rfl | rfl | rfl | rfl <;> rfl, by omega⟩
theorem kyInfo16 : (Try.prog.info? 40).map (fun i => (i.zero, i.size, i.bytes)) = some (some (.agg #[.int .i64 0, .int .i64 0, .int .i64 0]), 3, 24) := by kernel_rfl
theorem bs_id1 (k : Kyy) (w : World) : (Instr.buildSlice 36 1 #[(0, .agg #[.int .i64 k.1, .int .i64 k.2.1, .int .i64 k.2.2])]).run Try.prog w = .ok (.slice (some ⟨w.heap.size, 0, none⟩) 1 1) (w.alloc (.cells (E3k.f k).toArray 40)) := by kernel_rfl
theorem kyB (a1 a2 a3 b1 b2 b3 : Int) : decide ((a1, a2, a3) = ((b1, b2, b3) : Kyy)) = (decide (a1 = b1) && (decide (a2 = b2) && decide (a3 = b3))) := by
  rw [Bool.eq_iff_iff]
  simp
theorem eqKy (a b : Kyy) (w : World) : (binOp .eql 40 (.agg #[.int .i64 a.1, .int .i64 a.2.1, .int .i64 a.2.2]) (.agg #[.int .i64 b.1, .int .i64 b.2.1, .int .i64 b.2.2])).run Try.prog w = .ok (.bool (decide (a = b))) w := by
  obtain ⟨a1, a2, a3⟩ := a
  obtain ⟨b1, b2, b3⟩ := b
  rw [kyB]
  by_cases h1 : a1 = b1
  · by_cases h2 : a2 = b2
    · by_cases h3 : a3 = b3
      · simp [go_sem, h1, h2, h3]
      · simp [go_sem, h1, h2, h3]
    · simp [go_sem, h1, h2]
  · simp [go_sem, h1]
theorem eqo_ky {o : Oper} {ρ : Operand → Value} {x y : Operand} {t' : TypeId} {a b : Kyy} (ho : o.op = .binOp .eql 40 x y t') (hx : ρ x = .agg #[.int .i64 a.1, .int .i64 a.2.1, .int .i64 a.2.2]) (hy : ρ y = .agg #[.int .i64 b.1, .int .i64 b.2.1, .int .i64 b.2.2]) (w : World) :
    (execOp ρ o).run Try.prog w = .ok (.value (.bool (decide (a = b)))) w := by
  unfold execOp
  have eg : ∀ (xs ys : Array Value), (eqGuard .eql 40 x y (.agg xs) (.agg ys)).run Try.prog w = .ok () w := fun xs ys => run_eqGuard_agg w .eql 40 x y xs ys (by kernel_rfl)
  simp only [ho, hx, hy, Sem.run_bind, eg, eqKy, Result.andThen_ok, Sem.run_pure]

set_option maxHeartbeats 1000000 in
/-- Ids of the document's basin: the names of what was taken, each once. -/
theorem rids16_any (b : Nat) (vt : Value) (T : List Tok) (w : World) (hb : b < w.heap.size) (h6 : w.cell? ⟨b, 6, none⟩ = some vt) (ht : ER E9 w vt T) (hT : T.length ≤ 100000) :
    Calls Try.prog 43 #[.pointer (some ⟨b, 0, none⟩)] w fun e w' => ∃ v, e = .returned v ∧ EO E3k 40 w' w.heap.size v (idsT T) ∧ Below w.heap.size w w' := by
  obtain ⟨q, cap, g, off, rfl, hc, hm, hp, hr⟩ := ht.at
  clear ht
  generalize hn : T.length = n at *
  go_enter Try.func43, Try.ntmps43
  go_wp2_with fail
  go_loopw [3, 4] (fun v i wr => ∃ k : Nat, k ≤ n ∧ i = .int .i64 (k : Int) ∧ EO E3k 40 wr w.heap.size v (idsT (T.take k)) ∧ Below w.heap.size w wr) (fun _ i _ => n - (intOf i).toNat)
  case atStart => exact ⟨0, by omega, rfl, eo_nil _ _ _ _, Below.refl _ _⟩
  case round =>
    obtain ⟨k, hk, rfl, hO, hw⟩ := hrel
    have c6 := keep_cell hw h6 hb
    by_cases c : k = n
    · subst c
      rw [List.take_of_length_le (by omega)] at hO
      clear hr
      go_wp2_with fail
      go_ret
      exact ⟨_, rfl, hO, hw⟩
    · obtain ⟨x, hx⟩ : ∃ x, T[k]? = some x := ⟨T[k], List.getElem?_eq_getElem (by omega)⟩
      obtain ⟨rfl, hgk⟩ := hp (by omega)
      have z0 := keep_cell hw (hr k x hx 0 _ rfl) hgk
      have z1 := keep_cell hw (hr k x hx 1 _ rfl) hgk
      have z2 := keep_cell hw (hr k x hx 2 _ rfl) hgk
      rw [Nat.add_zero, show E9.k = 9 from rfl] at z0
      rw [show E9.k = 9 from rfl] at z1 z2
      have hki : (k : Int) < (n : Int) := by omega
      have HM : Hid (idsT (T.take (k + 1)) = addK (idsT (T.take k)) x.1) := idsT_take hx
      have hlen : (idsT (T.take k)).length ≤ 100000 := Nat.le_trans (idsT_len _) (by rw [List.length_take]; omega)
      generalize idsT (T.take k) = L at *
      obtain ⟨q', cap', g', off', rfl, hc', hm', hp', hr'⟩ := hO.er.at
      generalize hm0 : L.length = m at *
      obtain ⟨⟨xa, xb, xc⟩, xs⟩ := x
      try dsimp only at z0 z1 z2 HM
      clear hr hx
      go_wp2_with fail
      go_loopw [5, 6] (fun t i wr' => ∃ j : Nat, j ≤ m ∧ i = .int .i64 (j : Int) ∧ t = .bool (decide ((xa, xb, xc) ∈ L.take j)) ∧ Below wr.heap.size wr wr') (fun _ i _ => m - (intOf i).toNat)
      case atStart => exact ⟨0, by omega, rfl, by simp, Below.refl _ _⟩
      case round =>
        obtain ⟨j, hj, rfl, rfl, hw2⟩ := hrel
        have hlt2 := hw2.size
        have hwn := ab_trans hw hw2
        have hO2 := hO.keep (hw2)
        have d6 := keep_cell hwn h6 hb
        have e0 := keep_cell hw2 z0 (Nat.lt_of_lt_of_le hgk hw.size)
        have e1 := keep_cell hw2 z1 (Nat.lt_of_lt_of_le hgk hw.size)
        have e2 := keep_cell hw2 z2 (Nat.lt_of_lt_of_le hgk hw.size)
        by_cases c1 : j = m
        · subst c1
          rw [List.take_of_length_le (by omega)]
          by_cases hin : (xa, xb, xc) ∈ L
          · have HA : Hid (addK L (xa, xb, xc) = L) := by show _ = _; unfold addK; rw [if_pos hin]
            rw [decide_eq_true hin]
            clear hr'
            go_wp2_with fail
            go_roundw
            case rel => exact ⟨k + 1, by omega, by go_num, by rw [HM.out, HA.out]; exact hO2, hwn⟩
            case measure => simp [intOf]; omega
          · have HA : Hid (addK L (xa, xb, xc) = L ++ [(xa, xb, xc)]) := by show _ = _; unfold addK; rw [if_neg hin]
            rw [decide_eq_false hin]
            clear hr' hp'
            go_wp2_with (first
              | (refine bid_l rfl rfl xa xb xc (by simp only [List.map_toArray, List.map_cons, List.map_nil]; rfl) ?_; intro W6 hB6 b6)
              | (at_builtin; refine app_e (E := E3k) w rfl rfl Try.underlying36 infoId rfl rfl (hO2.keep b6) rfl (eo_single (E := E3k) (x := (xa, xb, xc)) hB6).er ?c1 ?c2 (ab_trans hwn b6) ?_))
            case c1 => rw [List.length_singleton]; omega
            case c2 => rw [List.length_singleton]; omega
            intro v' W7 hown' hb7 hgr
            go_wp2_with fail
            go_roundw
            case rel => exact ⟨k + 1, by omega, by go_num, by rw [HM.out, HA.out]; exact hown', hb7⟩
            case measure => simp [intOf]; omega
        · obtain ⟨y, hy⟩ : ∃ y, L[j]? = some y := ⟨L[j], List.getElem?_eq_getElem (by omega)⟩
          obtain ⟨rfl, hgj⟩ := hp' (by omega)
          have y0 := keep_cell hw2 (hr' j y hy 0 _ rfl) hgj
          have y1 := keep_cell hw2 (hr' j y hy 1 _ rfl) hgj
          have y2 := keep_cell hw2 (hr' j y hy 2 _ rfl) hgj
          have lg := Nat.lt_of_lt_of_le hgk hwn.size
          have lg' := Nat.lt_of_lt_of_le hgj hlt2
          have lb := Nat.lt_of_lt_of_le hb hwn.size
          rw [Nat.add_zero, show E3k.k = 3 from rfl] at y0
          rw [show E3k.k = 3 from rfl] at y1 y2
          have hji : (j : Int) < (m : Int) := by omega
          have HB : Hid (decide ((xa, xb, xc) ∈ L.take (j + 1)) = (decide ((xa, xb, xc) ∈ L.take j) || decide (y = (xa, xb, xc)))) := by
            show _ = _
            rw [List.take_add_one, hy, Bool.eq_iff_iff, decide_eq_true_iff, Bool.or_eq_true, decide_eq_true_iff, decide_eq_true_iff, List.mem_append, Option.toList_some, List.mem_singleton]
            exact or_congr Iff.rfl eq_comm
          generalize decide ((xa, xb, xc) ∈ L.take j) = bb at *
          generalize hbb : decide ((xa, xb, xc) ∈ L.take (j + 1)) = bb' at *
          obtain ⟨ya, yb, yc⟩ := y
          try dsimp only at y0 y1 y2
          clear hr' hy c6 z0 z1 z2
          have HK := HB.out
          cases bb
          · go_upto_region 9 with fail
            refine wp_region_below (by kernel_rfl) (by kernel_rfl) ?_
            have HZ := cls_some wr
            have C6 := cls_cell d6 lb
            have X0 := cls_cell e0 lg
            have X1 := cls_cell e1 lg
            have X2 := cls_cell e2 lg
            have Y0 := cls_cell y0 lg'
            have Y1 := cls_cell y1 lg'
            have Y2 := cls_cell y2 lg'
            iterate 14 (go_big_quiet_step (fail))
            refine quiet_val rfl _ (fun w' _ => eqo_ky (a := (ya, yb, yc)) (b := (xa, xb, xc)) rfl rfl rfl w') ?_
            simp only [Act.put, List.setIfInBounds_toArray, List.set_cons_succ, List.set_cons_zero]
            rw [Bool.false_or] at HK
            rw [← HK]
            iterate 2 (go_big_quiet_step (fail))
            refine wpQuiet_nil ?_
            rintro w7 ⟨⟨W7, b7⟩, e7⟩
            dsimp only at e7
            subst e7
            have hb7 := ab_trans hw2 b7
            go_wp2_with fail
            go_roundw
            case rel => exact ⟨j + 1, by omega, by go_num, congrArg Value.bool ((kyB ya yb yc xa xb xc).symm.trans (HK.symm.trans hbb.symm)), hb7⟩
            case measure => simp [intOf]; omega
          · rw [Bool.true_or] at HK
            subst HK
            clear y0 y1 y2 e0 e1 e2 d6
            go_upto_region 9 with fail
            go_quiet (fail)
            go_wp2_with fail
            go_roundw
            case rel => exact ⟨j + 1, by omega, by go_num, congrArg Value.bool hbb.symm, below_drewN hw2 _⟩
            case measure => simp [intOf]; omega
end Go.Proofs.Ytogbhiklhcibdaa
namespace Go.Proofs.Ytogbhiklhcibdaa
open Go.RowKit
set_option linter.unusedVariables false
set_option maxRecDepth 100000

/-- The document's basin. -/
structure R6 where
  res : List Int
  sh : Int
  mo : Int
  nx : List Int
  ms : List (List Int)
  ba : List (Int × Int)
  tk : List Tok
/-- A slice's value. -/
abbrev Sv := Option Addr × Nat × Nat
def svV (x : Sv) : Value := .slice x.1 x.2.1 x.2.2
def E1 : En Int := ⟨1, fun x => [.int .i64 x], fun _ => rfl, fun x u hu => by simp at hu; subst hu; rfl, by omega⟩
def ESv : En Sv := ⟨1, fun x => [svV x], fun _ => rfl, fun x u hu => by simp at hu; subst hu; rfl, by omega⟩
/-- Where it lies. -/
structure Rk where
  b : Nat
  gn : Nat
  cn : Nat
  gm : Nat
  cm : Nat
  gb : Nat
  cb : Nat
  vr : Value
  vt : Value
  us : List Sv
def rqC (K : Rk) (R : R6) : Array Value := #[K.vr, .int .i64 R.sh, .int .i64 R.mo, .slice (some ⟨K.gn, 0, none⟩) R.nx.length K.cn, .slice (some ⟨K.gm, 0, none⟩) K.us.length K.cm, .slice (some ⟨K.gb, 0, none⟩) R.ba.length K.cb, K.vt]
structure Rq (W : World) (B : Nat) (K : Rk) (R : R6) : Prop where
  blk : Blk W K.b (rqC K R) 106
  ge : B ≤ K.b
  re : Io W B K.vr R.res
  ne : Rw E1 3 W K.gn K.cn R.nx
  gen : B ≤ K.gn
  me : Rw ESv 38 W K.gm K.cm K.us
  gem : B ≤ K.gm
  ml : K.us.length = R.ms.length
  ms : ∀ (j : Nat) (u : Sv) (l : List Int), K.us[j]? = some u → R.ms[j]? = some l → Io W B (svV u) l
  be : Rw E2 24 W K.gb K.cb R.ba
  geb : B ≤ K.gb
  te : EO E9 110 W B K.vt R.tk
  dr : K.vr.ownBlock ≠ some K.gn
  dn : ∀ u ∈ K.us, (svV u).ownBlock ≠ some K.gn
  du : ∀ u ∈ K.us, Sep K.vr (svV u)
  dd : ∀ (i j : Nat) (u v : Sv), K.us[i]? = some u → K.us[j]? = some v → i ≠ j → Sep (svV u) (svV v)
/-- Its blocks that turn. -/
def rkB (K : Rk) (k : Nat) : Prop := k = K.b ∨ k = K.gn ∨ k = K.gm ∨ k = K.gb ∨ ∃ u ∈ K.us, (svV u).ownBlock = some k
theorem own_same {W W' : World} {base e size n : Nat} {v : Value} {xs : List Value} (h : W.ownsRow base e size v n xs) (he : ∀ g, v.ownBlock = some g → W'.heap[g]? = W.heap[g]?) : W'.ownsRow base e size v n xs := by
  obtain ⟨h1, h2⟩ := h
  refine ⟨h1, ?_⟩
  rcases h2 with h2 | ⟨g, cap, cur, e1, hb, hg, hr⟩
  · exact .inl h2
  · refine .inr ⟨g, cap, cur, e1, hb, ?_, hr⟩
    rw [← hg]
    exact he g (by rw [e1]; simp [Value.ownBlock])
theorem Rq.lt {W : World} {B : Nat} {K : Rk} {R : R6} (h : Rq W B K R) {k : Nat} (hk : rkB K k) : B ≤ k ∧ k < W.heap.size := by
  rcases hk with rfl | rfl | rfl | rfl | ⟨u, hu, e⟩
  · exact ⟨h.ge, h.blk.lt⟩
  · exact ⟨h.gen, h.ne.lt⟩
  · exact ⟨h.gem, h.me.lt⟩
  · exact ⟨h.geb, h.be.lt⟩
  · obtain ⟨j, hj, hju⟩ := List.getElem_of_mem hu
    have h1 : K.us[j]? = some u := by rw [List.getElem?_eq_getElem hj, hju]
    have h2 := List.getElem?_eq_getElem (l := R.ms) (i := j) (by rw [← h.ml]; exact hj)
    exact (h.ms j u _ h1 h2).lt k e
/-- It stays where nothing of it turns. -/
theorem Rq.same {W W' : World} {B : Nat} {K : Rk} {R : R6} (h : Rq W B K R) (he : ∀ k, B ≤ k → k < W.heap.size → W'.heap[k]? = W.heap[k]?) : Rq W' B K R :=
  ⟨by unfold Blk; rw [he _ h.ge h.blk.lt]; exact h.blk, h.ge, own_same h.re (fun g hg => he g (h.re.lt g hg).1 (h.re.lt g hg).2), rw_at h.ne (he _ h.gen h.ne.lt), h.gen, rw_at h.me (he _ h.gem h.me.lt), h.gem, h.ml,
    fun j u l hu hl => own_same (h.ms j u l hu hl) (fun g hg => he g ((h.ms j u l hu hl).lt g hg).1 ((h.ms j u l hu hl).lt g hg).2), rw_at h.be (he _ h.geb h.be.lt), h.geb, own_same h.te (fun g hg => he g (World.ownsRow.lt h.te g hg).1 (World.ownsRow.lt h.te g hg).2), h.dr, h.dn, h.du, h.dd⟩
theorem Rq.keep {W W' : World} {B : Nat} {K : Rk} {R : R6} (h : Rq W B K R) (hb : Below W.heap.size W W') : Rq W' B K R := h.same (fun k _ hk => hb.block k hk)
theorem Rq.frm {X : Nat → Prop} {W W' : World} {B : Nat} {K : Rk} {R : R6} (h : Rq W B K R) (hf : Frm X W W') (hx : ∀ k, X k → k < B) : Rq W' B K R := h.same (fun k hb hk => hf.other k hk (fun e => by have := hx k e; omega))
/-- The cells of its block. -/
theorem Rq.cells {W : World} {B : Nat} {K : Rk} {R : R6} (h : Rq W B K R) : W.cell? ⟨K.b, 0, none⟩ = some K.vr ∧ W.cell? ⟨K.b, 1, none⟩ = some (.int .i64 R.sh) ∧ W.cell? ⟨K.b, 2, none⟩ = some (.int .i64 R.mo) ∧ W.cell? ⟨K.b, 3, none⟩ = some (.slice (some ⟨K.gn, 0, none⟩) R.nx.length K.cn) ∧ W.cell? ⟨K.b, 4, none⟩ = some (.slice (some ⟨K.gm, 0, none⟩) K.us.length K.cm) ∧ W.cell? ⟨K.b, 5, none⟩ = some (.slice (some ⟨K.gb, 0, none⟩) R.ba.length K.cb) ∧ W.cell? ⟨K.b, 6, none⟩ = some K.vt :=
  ⟨h.blk.at rfl, h.blk.at rfl, h.blk.at rfl, h.blk.at rfl, h.blk.at rfl, h.blk.at rfl, h.blk.at rfl⟩
abbrev r6ptr (K : Rk) : Value := .pointer (some ⟨K.b, 0, none⟩)
/-- What Raise leaves. -/
def kpT (i : Nat) (p : Int × Int) (x : Tok) : Bool := !decide (x.1.1 = (i : Int)) || !pl x.1.2.1 x.1.2.2 p.1 p.2
def rsdR (R : R6) (i : Nat) (p : Int × Int) : R6 := { R with ba := R.ba.set i p, tk := R.tk.filter (kpT i p) }
theorem rq_ne {W : World} {B : Nat} {K : Rk} {R : R6} (h : Rq W B K R) : K.b ≠ K.gn ∧ K.b ≠ K.gm ∧ K.b ≠ K.gb ∧ K.gb ≠ K.gn ∧ K.gb ≠ K.gm ∧ K.gn ≠ K.gm :=
  ⟨fun e => absurd ((rw_kind h.ne).uniq (e ▸ h.blk.kindR)) (by decide), fun e => absurd ((rw_kind h.me).uniq (e ▸ h.blk.kindR)) (by decide), fun e => absurd ((rw_kind h.be).uniq (e ▸ h.blk.kindR)) (by decide),
    fun e => absurd ((rw_kind h.ne).uniq (e ▸ rw_kind h.be)) (by decide), fun e => absurd ((rw_kind h.me).uniq (e ▸ rw_kind h.be)) (by decide), fun e => absurd ((rw_kind h.me).uniq (e ▸ rw_kind h.ne)) (by decide)⟩
theorem io_ne {W : World} {B : Nat} {v : Value} {l : List Int} {g : Nat} (h : Io W B v l) {t : TypeId} (hk : kindR W g t) (ht : t ≠ 3) : v.ownBlock ≠ some g := by
  intro e
  obtain ⟨h1, h2⟩ := h
  rcases h2 with ⟨h2, _⟩ | ⟨g', cap, cur, e1, hb, hg, hr⟩
  · rw [h2] at e; simp [Value.ownBlock] at e
  · rw [e1] at e
    have e2 : g' = g := by simpa [Value.ownBlock] using e
    subst e2
    exact ht (hk.uniq ⟨_, _, hg⟩)
/-- Raise where nothing is raised. -/
theorem rraise16_out {B : Nat} {K : Rk} {R : R6} (lane : Int) (p : Int × Int) (w : World) (h : Rq w B K R) (hl : lane < 0 ∨ (R.ba.length : Int) ≤ lane) :
    Calls Try.prog 19 #[r6ptr K, .int .i64 lane, Plc p.1 p.2] w fun e w' => e = .returned (.tuple #[.int .i64 0, .int .i64 1]) ∧ Below w.heap.size w w' := by
  obtain ⟨A, hE, hX, hw⟩ := blk1 w #[.int .i64 p.1, .int .i64 p.2] 24
  have c5 := (h.keep hw).cells.2.2.2.2.2.1
  clear h hX
  generalize R.ba.length = n at *
  obtain ⟨b, gn, cn, gm, cm, gb, cb, vr, vt, us⟩ := K
  obtain ⟨p0, p1⟩ := p
  try dsimp only at *
  by_cases h0 : lane < 0
  · go_enter Try.func19, Try.ntmps19
    go_wp2_with fail
    go_ret2
    exact ⟨rfl, hw⟩
  · have h1 : (n : Int) ≤ lane := by omega
    go_enter Try.func19, Try.ntmps19
    go_wp2_with fail
    go_ret2
    exact ⟨rfl, hw⟩
theorem rraise16_no {B : Nat} {K : Rk} {R : R6} (i : Nat) (p c : Int × Int) (w : World) (h : Rq w B K R) (hc : R.ba[i]? = some c) (hpl : pl c.1 c.2 p.1 p.2 = false) :
    Calls Try.prog 19 #[r6ptr K, .int .i64 (i : Int), Plc p.1 p.2] w fun e w' => e = .returned (.tuple #[.int .i64 0, .int .i64 0]) ∧ Below w.heap.size w w' := by
  obtain ⟨A, hE, hX, hw⟩ := blk1 w #[.int .i64 p.1, .int .i64 p.2] 24
  have hA := h.keep hw
  have c5 := hA.cells.2.2.2.2.2.1
  have hi : i < R.ba.length := (List.getElem?_eq_some_iff.1 hc).1
  have hli : (i : Int) < (R.ba.length : Int) := by omega
  have x5 := cls_cell c5 hA.blk.lt
  have y0 : ∀ y : Cls A, y.val.cell? ⟨w.heap.size, 0, none⟩ = some (.int .i64 p.1) := fun y => (hX.keep y.prop).at rfl
  have y1 : ∀ y : Cls A, y.val.cell? ⟨w.heap.size, 1, none⟩ = some (.int .i64 p.2) := fun y => (hX.keep y.prop).at rfl
  have z0 : ∀ y : Cls A, y.val.cell? ⟨K.gb, i * 2, none⟩ = some (.int .i64 c.1) := fun y => (hA.be.keep y.prop).cell (i := 0) hc rfl
  have z1 : ∀ y : Cls A, y.val.cell? ⟨K.gb, i * 2 + 1, none⟩ = some (.int .i64 c.2) := fun y => (hA.be.keep y.prop).cell (i := 1) hc rfl
  clear h hA hX hc
  generalize R.ba.length = n at *
  obtain ⟨b, gn, cn, gm, cm, gb, cb, vr, vt, us⟩ := K
  obtain ⟨p0, p1⟩ := p
  obtain ⟨c0, c1⟩ := c
  try dsimp only at *
  go_enter Try.func19, Try.ntmps19
  go_upto_region 3 with fail
  have HZ := cls_some A
  refine wp_region_below (by kernel_rfl) (by kernel_rfl) ?_
  repeat (go_big_quiet_step (first | (go_at_call 11; exact calls_below (rpless_any _ _ _ _ _))))
  refine wpQuiet_nil ?_
  rintro _ ⟨y, rfl⟩
  rw [hpl]
  clear x5 y0 y1 z0 z1
  go_wp2_with fail
  go_ret2
  exact ⟨rfl, ab_trans hw y.prop⟩
end Go.Proofs.Ytogbhiklhcibdaa
namespace Go.Proofs.Ytogbhiklhcibdaa
open Go.RowKit
set_option linter.unusedVariables false
set_option maxRecDepth 100000

theorem len_idsT {S : Bsn} {T : List Tok} (h : TkI S T) (nd : S.ks.Nodup) : (idsT T).length = S.ks.length :=
  ((List.perm_ext_iff_of_nodup (idsT_nodup T) nd).2 (fun k => by rw [mem_idsT, h.ks])).length_eq
theorem addK_nodup {ks : List Kyy} {k : Kyy} (h : ks.Nodup) : (addK ks k).Nodup := by
  unfold addK
  split
  · exact h
  · rename_i hn
    rw [List.nodup_append]
    exact ⟨h, by simp, fun a ha b hb => by simp at hb; subst hb; exact fun e => hn (e ▸ ha)⟩
theorem fold_nodup (one : Nat → Int) : ∀ (l : List Kyy) (S : Bsn), S.ks.Nodup → (l.foldl (fun T k => addB T one k) S).ks.Nodup
  | [], S, h => h
  | k :: l, S, h => fold_nodup one l (addB S one k) (addK_nodup h)
/-- There is room in the one just where there is in the other. -/
theorem roo_ids {S : Bsn} {T : List Tok} (h : TkI S T) (hok : Okb S) (src : Int) (o : Op5) (hs : J64 src) (ho : Fit5 o) (hl : T.length + (idsB S o).length ≤ 2000) (hnd : (idsB S o).Nodup) :
    rooB S o = decide (((idsT (T ++ tokL src o (idsB S o))).length : Int) ≤ S.mo) := by
  have h2 := tki_pou h hok src o hs ho hl
  have hlen : (pouB S src o).ks.length = S.ks.length + misB S (idsB S o) := fold_len _ _ _ hnd
  have nd2 : (pouB S src o).ks.Nodup := fold_nodup _ _ _ hok.nd
  rw [len_idsT h2 nd2, hlen]
  rfl
/-- What Raise leaves is what isn't ahead of the raised base. -/
theorem kpT_pas {ba : List (Int × Int)} {i : Nat} {p c : Int × Int} {x : Tok} (hc : ba[i]? = some c) (h0 : 0 ≤ x.1.1) (hx : pasB ba x.1 = false) : kpT i p x = !pasB (ba.set i p) x.1 := by
  obtain ⟨j, hj⟩ : ∃ j : Nat, x.1.1 = (j : Int) := ⟨x.1.1.toNat, by omega⟩
  have hi := (List.getElem?_eq_some_iff.1 hc).1
  unfold kpT
  by_cases e : j = i
  · subst e
    rw [pasB_at (i := j) (c := p) hj (by rw [List.getElem?_set_self hi]), decide_eq_true hj]
    simp
  · have h1 : pasB (ba.set i p) x.1 = pasB ba x.1 := by
      unfold pasB
      rw [hj, Int.toNat_natCast, List.getElem?_set_ne (Ne.symm e)]
    rw [h1, hx, decide_eq_false (by rw [hj]; omega)]
    rfl
theorem tki_rai {S : Bsn} {T : List Tok} (h : TkI S T) {i : Nat} {p c : Int × Int} (hc : S.ba[i]? = some c) (hpl : pl c.1 c.2 p.1 p.2 = true) (hT : ∀ x ∈ T, 0 ≤ x.1.1 ∧ pasB S.ba x.1 = false) :
    TkI (drpB (lifB S i p)) (T.filter (kpT i p)) := by
  have h1 : lifB S i p = { S with ba := S.ba.set i p } := by rw [lifB_at hc, mxP_yes hpl]
  have h2 : TkI (lifB S i p) T := tki_of h (by rw [h1]) (by rw [h1])
  have h3 := tki_drp h2
  have h4 : T.filter (kpT i p) = T.filter fun x => !pasB (lifB S i p).ba x.1 := by
    apply List.filter_congr
    intro x hx
    rw [h1]
    exact kpT_pas hc (hT x hx).1 (hT x hx).2
  rw [h4]
  exact h3
/-- The program's basin, where it is older than something. -/
structure OldK (B : Nat) (K : Bkk) : Prop where
  b : K.b < B
  gf : K.gf < B
  gb : K.gb < B
  m : K.m < B
  vr : ∀ g, K.vr.ownBlock = some g → g < B
theorem Bq.aged {W : World} {B : Nat} {K : Bkk} {S : Bsn} (h : Bq W B K S) : OldK W.heap.size K := ⟨h.blk.lt, h.fe.lt, h.be.lt, h.ce.lt, fun g hg => (h.re.lt g hg).2⟩
theorem Bq.oldf {X : Nat → Prop} {W W' : World} {B B1 : Nat} {K : Bkk} {S : Bsn} (h : Bq W B K S) (ho : OldK B1 K) (hf : Frm X W W') (hx : ∀ k, X k → B1 ≤ k) : Bq W' B K S := by
  have hn : ∀ k, k < B1 → ¬ X k := fun k hk e => by have := hx k e; omega
  exact ⟨h.blk.frm hf (hn _ ho.b), h.ge, own_same h.re (fun g hg => hf.other g (h.re.lt g hg).2 (hn g (ho.vr g hg))), rw_at h.fe (hf.other _ h.fe.lt (hn _ ho.gf)), h.gef, rw_at h.be (hf.other _ h.be.lt (hn _ ho.gb)), h.geb, h.ce.frm hf (hn _ ho.m), h.gem, h.ok⟩
end Go.Proofs.Ytogbhiklhcibdaa
namespace Go.Proofs.Ytogbhiklhcibdaa
open Go.RowKit
set_option linter.unusedVariables false
set_option maxRecDepth 100000

theorem fl1_ints (l : List Int) : E1.fl l = ints l := by
  induction l with
  | nil => rfl
  | cons x l ih => rw [E1.fl_cons, ih]; rfl
theorem er1_is {W : World} {v : Value} {l : List Int} (h : Is W v l) : ER E1 W v l := by
  obtain ⟨q, cap, g, off, rfl, hc, hm, hp, hg, hr⟩ := h
  refine ⟨q, cap, g, off, rfl, hc, hm, fun h => ⟨hp h, hg h⟩, fun j u hj => ?_⟩
  rw [fl1_ints] at hj
  unfold ints at hj
  rw [List.getElem?_map] at hj
  cases hx : l[j]? with
  | none => rw [hx] at hj; cases hj
  | some x =>
    rw [hx] at hj
    simp at hj
    subst hj
    exact hr j x hx
theorem eo1_io {W : World} {B : Nat} {v : Value} {l : List Int} (h : EO E1 3 W B v l) : Io W B v l := by
  unfold EO at h
  rw [fl1_ints] at h
  exact h
theorem eo_kind {α : Type} {E : En α} {e : TypeId} {W : World} {B g : Nat} {v : Value} {l : List α} (h : EO E e W B v l) (hg : v.ownBlock = some g) : kindR W g e := by
  obtain ⟨h1, h2⟩ := h
  rcases h2 with ⟨h2, _⟩ | ⟨g', cap, cur, e1, hb, hg', hr⟩
  · rw [h2] at hg; simp [Value.ownBlock] at hg
  · rw [e1] at hg
    have e2 : g' = g := by simpa [Value.ownBlock] using hg
    subst e2
    exact ⟨_, _, hg'⟩
theorem eo_kept {α β : Type} {E : En α} {F : En β} {e f : TypeId} {W W' : World} {B C : Nat} {v u : Value} {l : List α} {m : List β} (h : EO E e W B v l) (k : EO F f W C u m) (hne : e ≠ f) (hg : W.grownBy W' u.ownBlock) : EO E e W' B v l :=
  own_same h (fun g he => hg.block g (World.ownsRow.lt h g he).2 (fun e1 => hne ((eo_kind h he).uniq (eo_kind k e1.symm))))
theorem blk_keptE {β : Type} {F : En β} {t f : TypeId} {W W' : World} {C b : Nat} {vs : Array Value} {u : Value} {m : List β} (h : Blk W b vs t) (k : EO F f W C u m) (hne : t ≠ f) (hg : W.grownBy W' u.ownBlock) : Blk W' b vs t := by
  unfold Blk
  rw [hg.block b h.lt (fun e1 => hne (h.kindR.uniq (eo_kind k e1.symm)))]
  exact h
theorem eo_less {α : Type} {E : En α} {e : TypeId} {W : World} {B B' : Nat} {v : Value} {l : List α} (h : EO E e W B v l) (hb : B' ≤ B) : EO E e W B' v l := own_less h hb
theorem eo_chg {α : Type} {E : En α} {e t : TypeId} {W W' : World} {B b : Nat} {v : Value} {vs : Array Value} {l : List α} (h : EO E e W B v l) (hB : Blk W b vs t) (hne : t ≠ e) (C : Chg b W W') : EO E e W' B v l :=
  own_same h (fun g he => C.other g (fun e1 => hne (hB.kindR.uniq (e1 ▸ eo_kind h he))))
section
variable {ops : Array Oper} {rest : List Oper} {o : Oper} {a : Act} {w : World} {Q : Exit → Act → World → Prop} {α : Type} {E : En α}
theorem bsEl (hw : Region.wanted o (yielded ops a.tmps) = true) {t e : TypeId} {parts : Array (Nat × Operand)} (ho : o.op = .buildSlice t 1 parts) (x : α) {vs : Array (Nat × Value)} (hl : parts.map (fun (i, x) => (i, a.eval x)) = vs)
    (hrun : ∀ w : World, (Instr.buildSlice t 1 vs).run Try.prog w = .ok (.slice (some ⟨w.heap.size, 0, none⟩) 1 1) (w.alloc (.cells (E.f x).toArray e)))
    (h : ∀ W', EO E e W' w.heap.size (.slice (some ⟨w.heap.size, 0, none⟩) 1 1) [x] → Below w.heap.size w W' → wpList Try.prog ops Q rest (a.put o.dst (.slice (some ⟨w.heap.size, 0, none⟩) 1 1)) W') : wpList Try.prog ops Q (o :: rest) a w := by
  unfold wpList
  rw [if_pos hw]
  left
  unfold Oper.wp execOp
  simp only [ho, Sem.run_bind, hl, hrun, Result.andThen_ok]
  exact h _ (eo_single (Blk.new _ _ _)) ((Below.refl _ _).alloc (Nat.le_refl _) _)
theorem bsE0 (hw : Region.wanted o (yielded ops a.tmps) = true) {t e : TypeId} {parts : Array (Nat × Operand)} (ho : o.op = .buildSlice t 0 parts) (hl : parts.map (fun (i, x) => (i, a.eval x)) = #[])
    (hrun : ∀ w : World, (Instr.buildSlice t 0 #[]).run Try.prog w = .ok (.slice (some ⟨w.heap.size, 0, none⟩) 0 0) (w.alloc (.cells #[] e)))
    (h : ∀ W', EO E e W' w.heap.size (.slice (some ⟨w.heap.size, 0, none⟩) 0 0) [] → Below w.heap.size w W' → wpList Try.prog ops Q rest (a.put o.dst (.slice (some ⟨w.heap.size, 0, none⟩) 0 0)) W') : wpList Try.prog ops Q (o :: rest) a w := by
  unfold wpList
  rw [if_pos hw]
  left
  unfold Oper.wp execOp
  simp only [ho, Sem.run_bind, hl, hrun, Result.andThen_ok]
  exact h _ (eo_of (n := 0) (own_blkE (xs := []) (Blk.new _ _ _) (Nat.le_refl _) (by simp) (by unfold maxLen; omega))) ((Below.refl _ _).alloc (Nat.le_refl _) _)
end
theorem bs_is0 (w : World) : (Instr.buildSlice 38 0 #[]).run Try.prog w = .ok (.slice (some ⟨w.heap.size, 0, none⟩) 0 0) (w.alloc (.cells #[] 3)) := by kernel_rfl
theorem bs_is1 (x : Int) (w : World) : (Instr.buildSlice 38 1 #[(0, .int .i64 x)]).run Try.prog w = .ok (.slice (some ⟨w.heap.size, 0, none⟩) 1 1) (w.alloc (.cells (E1.f x).toArray 3)) := by kernel_rfl
theorem bs_sv1 (x : Sv) (w : World) : (Instr.buildSlice 103 1 #[(0, svV x)]).run Try.prog w = .ok (.slice (some ⟨w.heap.size, 0, none⟩) 1 1) (w.alloc (.cells (ESv.f x).toArray 38)) := by kernel_rfl
theorem built_b6 (q : Option Addr) (n c : Nat) (sh mo : Int) : Try.prog.built 106 [(0, .slice q n c), (1, .int .i64 sh), (2, .int .i64 mo)] = some #[.slice q n c, .int .i64 sh, .int .i64 mo, .slice none 0 0, .slice none 0 0, .slice none 0 0, .slice none 0 0] := by kernel_rfl
/-- A slice into a cell of a block, at one operation. -/
theorem stPs {o : Oper} {a : Act} {w : World} {K : Act → World → Prop} {Q : Exit → Act → World → Prop} (d : Option Tmp) (hd : o.dst = d) {x y : Operand} (ho : o.op = .store 73 x y) {b i : Nat} {vs : Array Value} {t : TypeId} {q : Option Addr} {n c : Nat} {old : Value} (hB : Blk w b vs t)
    (hx : a.eval x = .pointer (some ⟨b, i, none⟩)) (hy : a.eval y = .slice q n c) (hi : vs[i]? = some old)
    (h : ∀ W', Blk W' b (vs.setIfInBounds i (.slice q n c)) t → Chg b w W' → K (a.put d undef) W') : o.wp Try.prog a w K Q := by
  subst hd
  have c := hB.at hi
  have f := hB.frozen i
  have h' := h _ (hB.set i (.slice q n _)) (chg_set w b i _)
  unfold Oper.wp execOp
  simp only [ho, hx, hy]
  go_simp
  exact h'
def newR6 (n : Nat) (l : List Int) (sh mo : Int) : R6 := ⟨l, sh, mo, List.replicate n 1, List.replicate n [], List.replicate (l.length * sh.toNat) lstP, []⟩
theorem rep_snoc {α : Type} (n : Nat) (x : α) : List.replicate n x ++ [x] = List.replicate (n + 1) x := (List.replicate_succ' ).symm
/-- Region 13: one more base. -/
theorem rnew_done {W A1 : World} {vr : Value} {l : List Int} {sh mo : Int} {n s m : Nat} {B : Nat} {qn qm qb : Option Addr} {cn cm cb : Nat} (hs : sh = (s : Int)) (hm : m = l.length * s) (h1 : 0 < n) (h2 : 0 < m) (hB : B ≤ A1.heap.size)
    (hb : Blk W A1.heap.size #[vr, .int .i64 sh, .int .i64 mo, .slice qn n cn, .slice qm n cm, .slice qb m cb, .slice none 0 0] 106) (hr : Io W B vr l) (hrl : ∀ k, vr.ownBlock = some k → k < A1.heap.size)
    (hn : EO E1 3 W A1.heap.size (.slice qn n cn) (List.replicate n 1)) (hk : EO ESv 38 W A1.heap.size (.slice qm n cm) (List.replicate n (none, 0, 0))) (he : EO E2 24 W A1.heap.size (.slice qb m cb) (List.replicate m lstP)) :
    ∃ K, r6ptr K = .pointer (some ⟨A1.heap.size, 0, none⟩) ∧ Rq W B K (newR6 n l sh mo) := by
  obtain ⟨gn, cn', e1⟩ := EO.at0 hn (by rw [List.length_replicate]; exact h1)
  obtain ⟨gm, cm', e2⟩ := EO.at0 hk (by rw [List.length_replicate]; exact h1)
  obtain ⟨gb, cb', e3⟩ := EO.at0 he (by rw [List.length_replicate]; exact h2)
  injection e1 with e1 e1' e1''
  injection e2 with e2 e2' e2''
  injection e3 with e3 e3' e3''
  subst e1 e2 e3
  obtain ⟨r1, g1⟩ := hn.rw
  obtain ⟨r2, g2⟩ := hk.rw
  obtain ⟨r3, g3⟩ := he.rw
  have hst : sh.toNat = s := by omega
  refine ⟨⟨A1.heap.size, gn, cn, gm, cm, gb, cb, vr, .slice none 0 0, List.replicate n (none, 0, 0)⟩, rfl, ?_, hB, hr, r1, by show B ≤ gn; omega, r2, by show B ≤ gm; omega, ?_, ?_, ?_, by show B ≤ gb; omega, eo_nil _ _ _ _, ?_, ?_, ?_, ?_⟩
  · unfold rqC newR6
    dsimp only
    rw [List.length_replicate, List.length_replicate, List.length_replicate, hst, ← hm]
    exact hb
  · unfold newR6; dsimp only; rw [List.length_replicate, List.length_replicate]
  · intro j u x hu hx
    have e1 := List.eq_of_mem_replicate (List.mem_of_getElem? hu)
    have e2 := List.eq_of_mem_replicate (List.mem_of_getElem? hx)
    subst e1 e2
    exact World.ownsRow_nil W _ _ _
  · unfold newR6; dsimp only; rw [hst, ← hm]; exact r3
  · intro e; have := hrl gn e; omega
  · intro u hu e
    have := List.eq_of_mem_replicate hu
    subst this
    simp [svV, Value.ownBlock] at e
  · intro u hu k hk e
    have := List.eq_of_mem_replicate hu
    subst this
    simp [svV, Value.ownBlock] at e
  · intro i j u v hu hv hij k hk e
    have := List.eq_of_mem_replicate (List.mem_of_getElem? hv)
    subst this
    simp [svV, Value.ownBlock] at e
end Go.Proofs.Ytogbhiklhcibdaa
namespace Go.Proofs.Ytogbhiklhcibdaa
open Go.RowKit
set_option linter.unusedVariables false
set_option maxRecDepth 100000

/-- Its bases have turned. -/
theorem Rq.upb {V W : World} {B : Nat} {K : Rk} {R : R6} {ba : List (Int × Int)} (h : Rq V B K R) (hl : ba.length = R.ba.length) (hR : Rw E2 24 W K.gb K.cb ba) (C : Chg K.gb V W) : Rq W B K { R with ba := ba } := by
  obtain ⟨n1, n2, n3, n4, n5, n6⟩ := rq_ne h
  have hk : kindR V K.gb 24 := rw_kind h.be
  refine ⟨?_, h.ge, own_same h.re (fun g hg => C.other g (fun e => io_ne h.re hk (by decide) (by rw [hg, e]))), rw_at h.ne (C.other _ (Ne.symm n4)), h.gen, rw_at h.me (C.other _ (Ne.symm n5)), h.gem, h.ml, fun j u l hu hl => own_same (h.ms j u l hu hl) (fun g hg => C.other g (fun e => io_ne (h.ms j u l hu hl) hk (by decide) (by rw [hg, e]))), hR, h.geb, own_same h.te (fun g hg => C.other g (fun e => absurd ((eo_kind h.te hg).uniq (e ▸ hk)) (by decide))), h.dr, h.dn, h.du, h.dd⟩
  have hb := h.blk.chg C n3
  unfold rqC at hb ⊢
  dsimp only
  rw [hl]
  exact hb
/-- What it took has turned. -/
theorem Rq.upt {V W : World} {B : Nat} {K : Rk} {R : R6} {tk : List Tok} {vt : Value} (h : Rq V B K R) (hE : EO E9 110 V B vt tk) (hB : Blk W K.b (rqC { K with vt := vt } { R with tk := tk }) 106) (C : Chg K.b V W) : Rq W B { K with vt := vt } { R with tk := tk } := by
  obtain ⟨n1, n2, n3, n4, n5, n6⟩ := rq_ne h
  have hk : kindR V K.b 106 := h.blk.kindR
  exact ⟨hB, h.ge, own_same h.re (fun g hg => C.other g (fun e => io_ne h.re hk (by decide) (by rw [hg, e]))), rw_at h.ne (C.other _ (Ne.symm n1)), h.gen, rw_at h.me (C.other _ (Ne.symm n2)), h.gem, h.ml, fun j u l hu hl => own_same (h.ms j u l hu hl) (fun g hg => C.other g (fun e => io_ne (h.ms j u l hu hl) hk (by decide) (by rw [hg, e]))), rw_at h.be (C.other _ (Ne.symm n3)), h.geb, own_same hE (fun g hg => C.other g (fun e => absurd ((eo_kind hE hg).uniq (e ▸ hk)) (by decide))), h.dr, h.dn, h.du, h.dd⟩
theorem zero_tk (w : World) : (zeroValue 110).run Try.prog w = .ok (.agg (tkA ((0, 0, 0), 0, ⟨0, 0, 0, 0, 0⟩))) w := by kernel_rfl
theorem info_tk (x : Tok) : (Try.prog.info? 110).map (·.size) = some (tkA x).size := by kernel_rfl
theorem infoTk : (Try.prog.info? 110).map (fun i => (i.zero, i.size, i.bytes)) = some (some (.agg (tkA ((0, 0, 0), 0, ⟨0, 0, 0, 0, 0⟩))), 9, 72) := by kernel_rfl
theorem tkA_one (x : Tok) : (tkA x).all (·.oneCell') = true := by rw [← Array.all_toList]; exact List.all_eq_true.2 (E9.one x)
theorem bs_tk1 (x : Tok) (w : World) : (Instr.buildSlice 104 1 #[(0, .agg (tkA x))]).run Try.prog w = .ok (.slice (some ⟨w.heap.size, 0, none⟩) 1 1) (w.alloc (.cells (E9.f x).toArray 110)) := by kernel_rfl
theorem Blk.nineT {W : World} {b : Nat} {x : Tok} {t : TypeId} (h : Blk W b (tkA x) t) : W.cell? ⟨b, 0, none⟩ = some (.int .i64 x.1.1) ∧ W.cell? ⟨b, 1, none⟩ = some (.int .i64 x.1.2.1) ∧ W.cell? ⟨b, 2, none⟩ = some (.int .i64 x.1.2.2) ∧ W.cell? ⟨b, 3, none⟩ = some (.int .i64 x.2.1) ∧ W.cell? ⟨b, 4, none⟩ = some (.int .i64 x.2.2.s) ∧ W.cell? ⟨b, 5, none⟩ = some (.int .i64 x.2.2.k) ∧ W.cell? ⟨b, 6, none⟩ = some (.int .i64 x.2.2.t) ∧ W.cell? ⟨b, 7, none⟩ = some (.int .i64 x.2.2.y) ∧ W.cell? ⟨b, 8, none⟩ = some (.int .i64 x.2.2.v) :=
  ⟨h.at rfl, h.at rfl, h.at rfl, h.at rfl, h.at rfl, h.at rfl, h.at rfl, h.at rfl, h.at rfl⟩
set_option maxHeartbeats 2000000 in
theorem rraise16_yes {B : Nat} {K : Rk} {R : R6} (i : Nat) (p c : Int × Int) (w : World) (h : Rq w B K R) (hBw : B ≤ w.heap.size) (hc : R.ba[i]? = some c) (hpl : pl c.1 c.2 p.1 p.2 = true) (hT : R.tk.length ≤ 100000) :
    Calls Try.prog 19 #[r6ptr K, .int .i64 (i : Int), Plc p.1 p.2] w fun e w' => ∃ vt, e = .returned (.tuple #[.int .i64 (((idsT R.tk).length : Int) - ((idsT (R.tk.filter (kpT i p))).length : Int)), .int .i64 0]) ∧ Rq w' B { K with vt := vt } (rsdR R i p) ∧ Frm (fun k => k = K.b ∨ k = K.gb) w w' := by
  obtain ⟨A, hE, hX, hw⟩ := blk1 w #[.int .i64 p.1, .int .i64 p.2] 24
  have hA := h.keep hw
  have c5 := hA.cells.2.2.2.2.2.1
  have hi : i < R.ba.length := (List.getElem?_eq_some_iff.1 hc).1
  have hli : (i : Int) < (R.ba.length : Int) := by omega
  have x5 := cls_cell c5 hA.blk.lt
  have y0 : ∀ y : Cls A, y.val.cell? ⟨w.heap.size, 0, none⟩ = some (.int .i64 p.1) := fun y => (hX.keep y.prop).at rfl
  have y1 : ∀ y : Cls A, y.val.cell? ⟨w.heap.size, 1, none⟩ = some (.int .i64 p.2) := fun y => (hX.keep y.prop).at rfl
  have z0 : ∀ y : Cls A, y.val.cell? ⟨K.gb, i * 2, none⟩ = some (.int .i64 c.1) := fun y => (hA.be.keep y.prop).cell (i := 0) hc rfl
  have z1 : ∀ y : Cls A, y.val.cell? ⟨K.gb, i * 2 + 1, none⟩ = some (.int .i64 c.2) := fun y => (hA.be.keep y.prop).cell (i := 1) hc rfl
  have HL : Hid (∀ V, Below A.heap.size A V → Rq V B K R ∧ Blk V w.heap.size #[.int .i64 p.1, .int .i64 p.2] 24 ∧ Below w.heap.size w V) := fun V hb => ⟨hA.keep hb, hX.keep hb, ab_trans hw hb⟩
  have HG : Hid (K.gb < w.heap.size ∧ K.b < w.heap.size) := ⟨h.be.lt, h.blk.lt⟩
  have hib : Hid (i < R.ba.length) := hi
  have HN := rq_ne h
  have HN3 : Hid (K.b ≠ K.gb) := HN.2.2.1
  clear h hA hX hc HN hi
  generalize hn : R.ba.length = n at *
  have hNb : Hid (R.ba.length = n) := hn
  clear hn
  obtain ⟨b, gn, cn, gm, cm, gb, cb, vr, vt, us⟩ := K
  obtain ⟨p0, p1⟩ := p
  obtain ⟨c0, c1⟩ := c
  try dsimp only at *
  go_enter Try.func19, Try.ntmps19
  go_upto_region 3 with fail
  have HZ := cls_some A
  refine wp_region_below (by kernel_rfl) (by kernel_rfl) ?_
  repeat (go_big_quiet_step (first | (go_at_call 11; exact calls_below (rpless_any _ _ _ _ _))))
  refine wpQuiet_nil ?_
  rintro V ⟨⟨V', hV⟩, rfl⟩
  obtain ⟨hQ, hP, hwV⟩ := HL.out V hV
  rw [hpl]
  clear x5 y0 y1 z0 z1 HZ HL hE c5
  have x5 : V.cell? ⟨b, 5, none⟩ = some (.slice (some ⟨gb, 0, none⟩) n cb) := by rw [← hNb.out]; exact hQ.cells.2.2.2.2.2.1
  have y0 : V.cell? ⟨w.heap.size, 0, none⟩ = some (.int .i64 p0) := hP.at rfl
  have y1 : V.cell? ⟨w.heap.size, 1, none⟩ = some (.int .i64 p1) := hP.at rfl
  go_upto_region 5 with fail
  refine wp_region_held_drew (S := fun w' => w'.cell? ⟨b, 5, none⟩ = some (.slice (some ⟨gb, 0, none⟩) n cb) ∧ w'.cell? ⟨w.heap.size, 0, none⟩ = some (.int .i64 p0) ∧ w'.cell? ⟨w.heap.size, 1, none⟩ = some (.int .i64 p1)) (by kernel_rfl) ⟨x5, y0, y1⟩ (fun hHeld => ?_)
  have bV : Below V.heap.size V V.drew := ab_drew (Below.refl _ _)
  have hQ2 := hQ.keep bV
  have hP2 := hP.keep bV
  have hw2 := ab_trans hwV bV
  clear hQ hP hwV x5 y0 y1 bV hV
  generalize V.drew = V2 at *
  refine takeH (i := 0) (some 33) rfl rfl (by kernel_rfl) (by kernel_rfl) (by kernel_rfl) (fun _ _ _ h => h) (by rfl) (fun w hSw => by (try dsimp only at hSw); go_simp; try rfl) hHeld ?_
  go_frame
  refine takeH (i := 1) (some 34) rfl rfl (by kernel_rfl) (by kernel_rfl) (by kernel_rfl) (fun _ _ _ h => h) (by rfl) (fun w hSw => by (try dsimp only at hSw); go_simp; try rfl) hHeld ?_
  go_frame
  refine takeH (i := 2) (some 35) rfl rfl (by kernel_rfl) (by kernel_rfl) (by kernel_rfl) (fun _ _ _ h => h) (by rfl) (fun w hSw => by (try dsimp only at hSw); go_simp; try rfl) hHeld ?_
  go_frame
  refine takeH (i := 3) (some 36) rfl rfl (by kernel_rfl) (by kernel_rfl) (by kernel_rfl) (fun _ _ _ h => h) (by rfl) (fun w hSw => by (try dsimp only at hSw); (obtain ⟨q4, q0, q1⟩ := hSw; go_simp; try rfl)) hHeld ?_
  go_frame
  refine takeH (i := 4) (some 37) rfl rfl (by kernel_rfl) (by kernel_rfl) (by kernel_rfl) (fun _ _ _ h => h) (by rfl) (fun w hSw => by (try dsimp only at hSw); go_simp; try rfl) hHeld ?_
  go_frame
  refine takeH (i := 5) (some 38) rfl rfl (by kernel_rfl) (by kernel_rfl) (by kernel_rfl) (fun _ _ _ h => h) (by rfl) (fun w hSw => by (try dsimp only at hSw); (obtain ⟨q4, q0, q1⟩ := hSw; go_simp; try rfl)) hHeld ?_
  go_frame
  refine takeH (i := 6) (some 39) rfl rfl (by kernel_rfl) (by kernel_rfl) (by kernel_rfl) (fun _ _ _ h => h) (by rfl) (fun w hSw => by (try dsimp only at hSw); (obtain ⟨q4, q0, q1⟩ := hSw; go_simp; try rfl)) hHeld ?_
  go_frame
  refine wpAnyH_ready (rs := [7]) (by kernel_rfl) (by simp) (AllReadyH.cons rfl (fun K hK => ?_) AllReadyH.nil)
  rw [if_pos (by rfl)]
  refine stEW (E := E2) none rfl rfl hQ2.be (by rw [hNb.out]; exact hib.out) (p0, p1) #[.int .i64 p0, .int .i64 p1] rfl rfl (by first | rfl | (simp; rfl) | (go_simp; rfl)) rfl info_plc fun W3 hR3 C3 => ?_
  have hQ3 := hQ2.upb (by rw [List.length_set]) hR3 C3
  have hgb := HG.out
  have hP3 := hP2.chg C3 (show w.heap.size ≠ gb by have := hgb.1; omega)
  have q4 : W3.cell? ⟨b, 5, none⟩ = some (.slice (some ⟨gb, 0, none⟩) n cb) := by have := hQ3.cells.2.2.2.2.2.1; rw [List.length_set, hNb.out] at this; exact this
  have q0 : W3.cell? ⟨w.heap.size, 0, none⟩ = some (.int .i64 p0) := hP3.at rfl
  have q1 : W3.cell? ⟨w.heap.size, 1, none⟩ = some (.int .i64 p1) := hP3.at rfl
  refine hK.out _ _ ⟨q4, q0, q1⟩ (fun hHeld => ?_)
  refine wpAnyH_done (by kernel_rfl) ?_ _
  clear hK K hHeld q4 q0 q1
  have hF3 : Frm (fun k => k = b ∨ k = gb) w W3 := (frm_below hw2).trans (frm_chg (X := fun k => k = b ∨ k = gb) C3 (.inr rfl))
  clear hQ2 hP2 hR3 C3 hw2
  go_upto_region 7 with (go_at_call 43; refine (rids16_any b vt R.tk _ hQ3.blk.lt hQ3.cells.2.2.2.2.2.2 hQ3.te.er hT).mono ?_; rintro e W4 ⟨v4, rfl, hO4, b4⟩; obtain ⟨q4, cap4, rfl⟩ := hO4.form)
  have hQ4 := hQ3.keep b4
  have hF4 := hF3.trans (frm_below (X := fun k => k = b ∨ k = gb) b4)
  have hP4 := hP3.keep b4
  have hB4 : B ≤ W4.heap.size := Nat.le_trans hBw hF4.size
  have HLen : Hid (cap4 = cap4 ∧ (idsT R.tk).length ≤ 100000) := ⟨rfl, Nat.le_trans (idsT_len _) hT⟩
  clear hQ3 hF3 hP3 b4 hO4
  have c6 := hQ4.cells.2.2.2.2.2.2
  obtain ⟨qt, ct, gt, ot, hvt, ht1, ht2, ht3, ht4⟩ := hQ4.te.er.at
  dsimp only at hvt c6 ht1 ht3 ht4
  subst hvt
  have hTe : R.tk.length = R.tk.length := rfl
  generalize hnT : R.tk.length = nT at *
  go_wp2_with fail
  go_loopw [9, 10] (fun v j wr => ∃ k : Nat, k ≤ nT ∧ j = .int .i64 (k : Int) ∧ EO E9 110 wr W4.heap.size v ((R.tk.take k).filter (kpT i (p0, p1))) ∧ Below W4.heap.size W4 wr) (fun _ j _ => nT - (intOf j).toNat)
  case atStart => exact ⟨0, by omega, rfl, eo_nil _ _ _ _, Below.refl _ _⟩
  case round =>
    obtain ⟨k, hk, rfl, hO, hw⟩ := hrel
    have d6 := keep_cell hw c6 hQ4.blk.lt
    by_cases ck : k = nT
    · subst ck
      rw [List.take_of_length_le (by omega)] at hO
      have hQ5 := hQ4.keep hw
      have hB5 : Blk wr b #[vr, .int .i64 R.sh, .int .i64 R.mo, .slice (some ⟨gn, 0, none⟩) R.nx.length cn, .slice (some ⟨gm, 0, none⟩) us.length cm, .slice (some ⟨gb, 0, none⟩) (R.ba.set i (p0, p1)).length cb, .slice qt k ct] 106 := hQ5.blk
      have e6 := hB5.at (i := 6) rfl
      have f6 := hB5.frozen 6
      obtain ⟨q9, cap9, hv9⟩ := hO.form
      subst hv9
      have hFl : (R.tk.filter (kpT i (p0, p1))).length ≤ 100000 := Nat.le_trans (List.length_filter_le _ _) (by omega)
      have HI2 : Hid ((idsT (R.tk.filter (kpT i (p0, p1)))).length ≤ 100000) := Nat.le_trans (idsT_len _) hFl
      go_upto_region 15 with fail
      have hB6 := hB5.set 6 (.slice q9 (R.tk.filter (kpT i (p0, p1))).length cap9)
      have C6 := chg_set wr b 6 (.slice q9 (R.tk.filter (kpT i (p0, p1))).length cap9)
      generalize wr.setCell ⟨b, 6, none⟩ (.slice q9 (R.tk.filter (kpT i (p0, p1))).length cap9) = W6 at *
      have hB6' : Blk W6 b #[vr, .int .i64 R.sh, .int .i64 R.mo, .slice (some ⟨gn, 0, none⟩) R.nx.length cn, .slice (some ⟨gm, 0, none⟩) us.length cm, .slice (some ⟨gb, 0, none⟩) (R.ba.set i (p0, p1)).length cb, .slice q9 (R.tk.filter (kpT i (p0, p1))).length cap9] 106 := by simpa using hB6
      have hQ6 := hQ5.upt (eo_less hO hB4) hB6' C6
      have HQ6 : Hid (Rq W6 B ⟨b, gn, cn, gm, cm, gb, cb, vr, .slice q9 (R.tk.filter (kpT i (p0, p1))).length cap9, us⟩ (rsdR R i (p0, p1))) := hQ6
      have hF6 := (hF4.trans (frm_below (X := fun k => k = b ∨ k = gb) hw)).trans (frm_chg (X := fun k => k = b ∨ k = gb) C6 (.inl rfl))
      have g6 := hQ6.cells.2.2.2.2.2.2
      have l6 := hQ6.blk.lt
      have t6 := hQ6.te.er
      dsimp only at g6 l6 t6
      clear hQ4 hQ5 hB5 hB6 hB6' hQ6 C6 e6 f6 d6 c6 ht4 ht3 hO
      go_wp2_with (go_at_call 43; refine (rids16_any b _ (R.tk.filter (kpT i (p0, p1))) W6 l6 g6 t6 hFl).mono ?_; rintro e W7 ⟨v7, rfl, hO7, b7⟩; obtain ⟨q7, cap7, hv7⟩ := hO7.form; subst hv7)
      go_ret2
      refine ⟨.slice q9 (R.tk.filter (kpT i (p0, p1))).length cap9, ?_, HQ6.out.keep b7, hF6.trans (frm_below b7)⟩
      have u1 := HLen.out.2
      have u2 := HI2.out
      have HWr : wrap64 (((idsT R.tk).length : Int) - ((idsT (R.tk.filter (kpT i (p0, p1)))).length : Int)) = ((idsT R.tk).length : Int) - ((idsT (R.tk.filter (kpT i (p0, p1)))).length : Int) := by unfold wrap64; omega
      show Ending.returned (.tuple #[.int .i64 (wrap64 (((idsT R.tk).length : Int) - ((idsT (R.tk.filter (kpT i (p0, p1)))).length : Int))), .int .i64 0]) = _
      rw [HWr]
    · obtain ⟨x, hx⟩ : ∃ x, R.tk[k]? = some x := ⟨R.tk[k], List.getElem?_eq_getElem (by omega)⟩
      obtain ⟨rfl, hgt⟩ := ht3 (by omega)
      have z0 := keep_cell hw (ht4 k x hx 0 _ rfl) hgt
      have z1 := keep_cell hw (ht4 k x hx 1 _ rfl) hgt
      have z2 := keep_cell hw (ht4 k x hx 2 _ rfl) hgt
      have z3 := keep_cell hw (ht4 k x hx 3 _ rfl) hgt
      have z4 := keep_cell hw (ht4 k x hx 4 _ rfl) hgt
      have z5 := keep_cell hw (ht4 k x hx 5 _ rfl) hgt
      have z6 := keep_cell hw (ht4 k x hx 6 _ rfl) hgt
      have z7 := keep_cell hw (ht4 k x hx 7 _ rfl) hgt
      have z8 := keep_cell hw (ht4 k x hx 8 _ rfl) hgt
      rw [Nat.add_zero, show E9.k = 9 from rfl] at z0
      rw [show E9.k = 9 from rfl] at z1 z2 z3 z4 z5 z6 z7 z8
      have hki : (k : Int) < (nT : Int) := by omega
      have HFk : Hid ((R.tk.take (k + 1)).filter (kpT i (p0, p1)) = (R.tk.take k).filter (kpT i (p0, p1)) ++ (if kpT i (p0, p1) x = true then [x] else [])) := by
        show _ = _
        rw [List.take_add_one, hx, List.filter_append]
        congr 1
        by_cases e : kpT i (p0, p1) x = true <;> simp [e]
      have hFlen : ((R.tk.take k).filter (kpT i (p0, p1))).length ≤ 100000 := Nat.le_trans (List.length_filter_le _ _) (by rw [List.length_take]; omega)
      generalize (R.tk.take k).filter (kpT i (p0, p1)) = L at *
      obtain ⟨⟨xa, xb, xc⟩, xs, ⟨os, ok, ot', oy, ov⟩⟩ := x
      try dsimp only at z0 z1 z2 z3 z4 z5 z6 z7 z8
      clear ht4 hx
      go_upto_region 12 with (first
        | (refine al_blk rfl rfl (tkA ((0, 0, 0), 0, ⟨0, 0, 0, 0, 0⟩)) (zero_tk _) ?_; intro W5 e5 hX5 b5)
        | (refine st_blk rfl rfl hX5 rfl (vs := tkA ((xa, xb, xc), xs, ⟨os, ok, ot', oy, ov⟩)) rfl (info_tk ((xa, xb, xc), xs, ⟨os, ok, ot', oy, ov⟩)) rfl (tkA_one _) ?_; intro W6 hX6 C6))
      have bw6 := ab_chg b5 C6 (Nat.le_refl _)
      have hw6 := ab_trans hw bw6
      have hO6 := hO.keep bw6
      have hP6 := hP4.keep hw6
      have p0' := hP6.at (i := 0) rfl
      have p1' := hP6.at (i := 1) rfl
      dsimp only [List.size_toArray, List.getElem_toArray, List.getElem_cons_zero, List.getElem_cons_succ] at p0' p1'
      obtain ⟨a0, a1, a2, -, -, -, -, -, -⟩ := hX6.nineT
      try dsimp only at a0 a1 a2
      clear z0 z1 z2 z3 z4 z5 z6 z7 z8 e5 hX5 C6 d6 hP6
      by_cases hx : xa = (i : Int)
      · subst hx
        have e0 : ((i : Int) != (i : Int)) = false := by simp
        cases hpx : pl xb xc p0 p1
        · have HKp : Hid (kpT i (p0, p1) (((i : Int), xb, xc), xs, ⟨os, ok, ot', oy, ov⟩) = true) := by show _ = _; unfold kpT; dsimp only; rw [hpx]; simp
          go_upto_region 13 with (go_at_call 11; refine (rpless_any _ _ _ _ _).mono ?_; rintro e W7 ⟨rfl, b7⟩; rw [hpx])
          clear a0 a1 a2 p0' p1'
          have hXk := hX6.keep b7
          have hOk := hO6.keep b7
          have hwk := ab_trans hw6 b7
          go_wp2_with (first
            | (refine ld_blk rfl rfl hXk rfl _ Try.underlying110 rfl (info_tk (((i : Int), xb, xc), xs, ⟨os, ok, ot', oy, ov⟩)) ?_)
            | (refine bsEl (E := E9) rfl rfl (((i : Int), xb, xc), xs, ⟨os, ok, ot', oy, ov⟩) (by simp only [List.map_toArray, List.map_cons, List.map_nil]; rfl) (bs_tk1 (((i : Int), xb, xc), xs, ⟨os, ok, ot', oy, ov⟩)) ?_; intro W8 hO8 b8)
            | (at_builtin; refine app_e (E := E9) W4 rfl rfl Try.underlying104 infoTk rfl rfl (hOk.keep b8) rfl hO8.er ?c1 ?c2 (ab_trans hwk b8) ?_))
          case c1 => first | omega | (rw [List.length_singleton]; omega)
          case c2 => first | omega | (rw [List.length_singleton]; omega)
          intro v9 W9 h1 h2 h3
          go_wp2_with fail
          go_roundw
          case rel => exact ⟨k + 1, by omega, by go_num, by rw [HFk.out, if_pos HKp.out]; exact h1, h2⟩
          case measure => simp [intOf]; omega
        · have HKp : Hid (kpT i (p0, p1) (((i : Int), xb, xc), xs, ⟨os, ok, ot', oy, ov⟩) = false) := by show _ = _; unfold kpT; dsimp only; rw [hpx]; simp
          go_wp2_with (go_at_call 11; refine (rpless_any _ _ _ _ _).mono ?_; rintro e W7 ⟨rfl, b7⟩; rw [hpx])
          go_roundw
          case rel => exact ⟨k + 1, by omega, by go_num, by rw [HFk.out, HKp.out, if_neg (by simp), List.append_nil]; exact hO6.keep b7, ab_trans hw6 b7⟩
          case measure => simp [intOf]; omega
      · have e0 : (xa != (i : Int)) = true := by simp [hx]
        have HKp : Hid (kpT i (p0, p1) ((xa, xb, xc), xs, ⟨os, ok, ot', oy, ov⟩) = true) := by show _ = _; unfold kpT; dsimp only; rw [decide_eq_false hx]; rfl
        go_upto_region 13 with fail
        clear a0 a1 a2 p0' p1'
        have hXk := hX6
        have hOk := hO6
        have hwk := hw6
        go_wp2_with (first
          | (refine ld_blk rfl rfl hXk rfl _ Try.underlying110 rfl (info_tk ((xa, xb, xc), xs, ⟨os, ok, ot', oy, ov⟩)) ?_)
          | (refine bsEl (E := E9) rfl rfl ((xa, xb, xc), xs, ⟨os, ok, ot', oy, ov⟩) (by simp only [List.map_toArray, List.map_cons, List.map_nil]; rfl) (bs_tk1 ((xa, xb, xc), xs, ⟨os, ok, ot', oy, ov⟩)) ?_; intro W8 hO8 b8)
          | (at_builtin; refine app_e (E := E9) W4 rfl rfl Try.underlying104 infoTk rfl rfl (hOk.keep b8) rfl hO8.er ?c1 ?c2 (ab_trans hwk b8) ?_))
        case c1 => first | omega | (rw [List.length_singleton]; omega)
        case c2 => first | omega | (rw [List.length_singleton]; omega)
        intro v9 W9 h1 h2 h3
        go_wp2_with fail
        go_roundw
        case rel => exact ⟨k + 1, by omega, by go_num, by rw [HFk.out, if_pos HKp.out]; exact h1, h2⟩
        case measure => simp [intOf]; omega
end Go.Proofs.Ytogbhiklhcibdaa
namespace Go.Proofs.Ytogbhiklhcibdaa
open Go.RowKit
set_option linter.unusedVariables false
set_option maxRecDepth 100000

/-- The greatest of some numbers, the first of which is m at least. -/
def mxF (m : Int) (l : List Int) : Int := l.foldl (fun a x => if a < x then x else a) m
theorem mxF_snoc (m : Int) (l : List Int) (x : Int) : mxF m (l ++ [x]) = if mxF m l < x then x else mxF m l := by unfold mxF; rw [List.foldl_append]; rfl
theorem mxF_take {m : Int} {l : List Int} {k : Nat} {x : Int} (h : l[k]? = some x) : mxF m (l.take (k + 1)) = if mxF m (l.take k) < x then x else mxF m (l.take k) := by
  rw [List.take_add_one, h]
  exact mxF_snoc _ _ _
/-- A row of marks, as the basin holds it. -/
theorem Rq.mrk {W : World} {B : Nat} {K : Rk} {R : R6} {i : Nat} {l : List Int} (h : Rq W B K R) (hl : R.ms[i]? = some l) : ∃ v, W.cell? ⟨K.gm, i, none⟩ = some v ∧ Is W v l := by
  have h1 := (List.getElem?_eq_some_iff.1 hl).1
  obtain ⟨u, h2⟩ : ∃ u, K.us[i]? = some u := ⟨K.us[i]'(by rw [h.ml]; exact h1), List.getElem?_eq_getElem _⟩
  refine ⟨svV u, ?_, (h.ms i _ l h2 hl).is⟩
  have := h.me.cell h2 (i := 0) (u := svV u) rfl
  simpa [show ESv.k = 1 from rfl] using this
end Go.Proofs.Ytogbhiklhcibdaa
namespace Go.Proofs.Ytogbhiklhcibdaa
open Go.RowKit
set_option linter.unusedVariables false
set_option maxRecDepth 100000

/-- One number appended to an own row of numbers, at one operation; where the row lies then. -/
theorem appiBW {o : Oper} {a : Act} {w : World} {K : Act → World → Prop} {Q : Exit → Act → World → Prop} (d : Option Tmp) (hd : o.dst = d) {s x : Operand} (ho : o.op = .call { callee := .builtin .append, args := #[s, x], argTypes := #[38, 38] })
    {v : Value} {B g : Nat} {l : List Int} (t : Int) (hs : a.eval s = v) (hown : Io w B v l) (hx : a.eval x = .slice (some ⟨g, 0, none⟩) 1 1) (hBl : Blk w g #[.int .i64 t] 3) (hk : l.length ≤ 100000) (hB : B ≤ w.heap.size)
    (h : ∀ v' w', Io w' B v' (l ++ [t]) → w.grownBy w' v.ownBlock → (v'.ownBlock = v.ownBlock ∨ v'.ownBlock = some w.heap.size) → K (a.put d v') w') : o.wp Try.prog a w K Q := by
  subst hd
  obtain ⟨i, hi, hz0, hz1, hz2⟩ := info_parts infoInt
  obtain ⟨v', w', hr, g2, g3, g4, g5⟩ := run_append_own_at (P := Try.prog) w B 38 o.type 3 i _ 1 8 Try.underlying38 hi hz0 hz1 hz2 rfl (by omega) v l.length (ints l) hown ⟨g, 0, none⟩ 1 1 [.int .i64 t] rfl (fun j u hu => by
    rw [add_plain _ rfl]
    have := hBl.at (i := j) (v := u) (by simpa using hu)
    simpa using this) (fun u hu => by rw [List.mem_singleton.1 hu]; rfl) (by unfold maxLen; omega) (by omega) hB
  unfold Oper.wp execOp
  simp only [ho, resolve, invoke, builtin, Sem.run_bind, Sem.run_pure, Result.andThen_ok, List.map_toArray, List.map_cons, List.map_nil, hs, hx, hr]
  refine h v' w' ?_ g3 g5
  have e : ints l ++ [.int .i64 t] = ints (l ++ [t]) := by unfold ints; rw [List.map_append]; rfl
  rw [e] at g2
  exact io_of g2
theorem io_kind {W : World} {B g : Nat} {v : Value} {l : List Int} (h : Io W B v l) (hg : v.ownBlock = some g) : kindR W g 3 := by
  obtain ⟨h1, h2⟩ := h
  rcases h2 with ⟨h2, _⟩ | ⟨g', cap, cur, e1, hb, hg', hr⟩
  · rw [h2] at hg; simp [Value.ownBlock] at hg
  · rw [e1] at hg
    have e2 : g' = g := by simpa [Value.ownBlock] using hg
    subst e2
    exact ⟨_, _, hg'⟩
/-- A mark has come: its row has grown, and lies where the row of rows says. -/
theorem Rq.upm {V W1 W : World} {B : Nat} {K : Rk} {R : R6} {j : Nat} {u u' : Sv} {l l' : List Int} (h : Rq V B K R) (hj : K.us[j]? = some u) (hl : R.ms[j]? = some l) (hI : Io W1 B (svV u') l') (hg : V.grownBy W1 (svV u).ownBlock) (ha : (svV u').ownBlock = (svV u).ownBlock ∨ (svV u').ownBlock = some V.heap.size)
    (hR : Rw ESv 38 W K.gm K.cm (K.us.set j u')) (C : Chg K.gm W1 W) : Rq W B { K with us := K.us.set j u' } { R with ms := R.ms.set j l' } := by
  obtain ⟨n1, n2, n3, n4, n5, n6⟩ := rq_ne h
  have hu := h.ms j u l hj hl
  have hjl := (List.getElem?_eq_some_iff.1 hj).1
  have hum := List.mem_of_getElem? hj
  have hkm : kindR V K.gm 38 := rw_kind h.me
  have hku : ∀ g, (svV u).ownBlock = some g → kindR V g 3 := fun g e => io_kind hu e
  -- what is of another kind, or apart, stays
  have stay : ∀ g, g < V.heap.size → g ≠ K.gm → (svV u).ownBlock ≠ some g → W.heap[g]? = V.heap[g]? := fun g hlt h1 h2 => (C.other g h1).trans (hg.block g hlt (fun e => h2 e.symm))
  have stK : ∀ g t, kindR V g t → t ≠ 38 → t ≠ 3 → W.heap[g]? = V.heap[g]? := fun g t hk h1 h2 => by
    refine stay g ?_ (fun e => h1 (hk.uniq (e ▸ hkm))) (fun e => h2 (hk.uniq (hku g e)))
    obtain ⟨cur, fr, e⟩ := hk
    exact (Array.getElem?_eq_some_iff.1 e).1
  have stI : ∀ {v : Value} {m : List Int}, Io V B v m → Sep v (svV u) → Io W B v m := fun hv hs => own_same hv (fun g e => stay g (hv.lt g e).2 (fun e1 => io_ne hv hkm (by decide) (by rw [e, e1])) (hs g e))
  refine ⟨?_, h.ge, stI h.re (h.du u hum), rw_at h.ne (stay _ h.ne.lt n6 (h.dn u hum)), h.gen, hR, h.gem, ?_, ?_, rw_at h.be (stK _ _ (rw_kind h.be) (by decide) (by decide)), h.geb, own_same h.te (fun g e => stK g _ (eo_kind h.te e) (by decide) (by decide)), h.dr, ?_, ?_, ?_⟩
  · have hb : Blk W K.b (rqC K R) 106 := by
      unfold Blk
      rw [stK _ _ h.blk.kindR (by decide) (by decide)]
      exact h.blk
    unfold rqC at hb ⊢
    dsimp only
    rw [List.length_set]
    exact hb
  · show (K.us.set j u').length = (R.ms.set j l').length
    rw [List.length_set, List.length_set]
    exact h.ml
  · intro i v m hv hm
    have hv' : (K.us.set j u')[i]? = some v := hv
    have hm' : (R.ms.set j l')[i]? = some m := hm
    by_cases e : j = i
    · subst e
      rw [List.getElem?_set_self hjl] at hv'
      rw [List.getElem?_set_self (by rw [← h.ml]; exact hjl)] at hm'
      cases hv'
      cases hm'
      exact own_same hI (fun g eg => C.other g (fun e1 => by
        subst e1
        obtain ⟨k1, k2⟩ := hI.lt _ eg
        rcases ha with e2 | e2
        · exact io_ne hu hkm (by decide) (by rw [← e2, eg])
        · rw [eg] at e2; have := h.me.lt; simp at e2; omega))
    · rw [List.getElem?_set_ne e] at hv' hm'
      exact stI (h.ms i v m hv' hm') (h.dd i j v u hv' hj (fun x => e x.symm))
  · intro v hv e
    rcases List.mem_or_eq_of_mem_set hv with hv | rfl
    · exact h.dn v hv e
    · rcases ha with e2 | e2
      · exact h.dn u hum (by rw [← e2]; exact e)
      · rw [e] at e2; have := h.ne.lt; simp at e2; omega
  · intro v hv
    rcases List.mem_or_eq_of_mem_set hv with hv | rfl
    · exact h.du v hv
    · exact sep_at (h.du u hum) (fun k hk => (h.re.lt k hk).2) ha
  · intro i k v x hv hx hik
    have hlt : ∀ (i : Nat) (v : Sv), K.us[i]? = some v → ∀ g, (svV v).ownBlock = some g → g < V.heap.size := fun i v hv g e => by
      have h1 := (List.getElem?_eq_some_iff.1 hv).1
      have h2 := List.getElem?_eq_getElem (l := R.ms) (i := i) (by rw [← h.ml]; exact h1)
      exact ((h.ms i v _ hv h2).lt g e).2
    have hv' : (K.us.set j u')[i]? = some v := hv
    have hx' : (K.us.set j u')[k]? = some x := hx
    by_cases e1 : j = i
    · subst e1
      rw [List.getElem?_set_self hjl] at hv'
      rw [List.getElem?_set_ne hik] at hx'
      cases hv'
      exact (sep_at (h.dd k j x u hx' hj (Ne.symm hik)) (hlt k x hx') ha).symm
    · rw [List.getElem?_set_ne e1] at hv'
      by_cases e2 : j = k
      · subst e2
        rw [List.getElem?_set_self hjl] at hx'
        cases hx'
        exact sep_at (h.dd i j v u hv' hj hik) (hlt i v hv') ha
      · rw [List.getElem?_set_ne e2] at hx'
        exact h.dd i k v x hv' hx' hik
/-- A next number has turned. -/
theorem Rq.upn {V W : World} {B : Nat} {K : Rk} {R : R6} {nx : List Int} (h : Rq V B K R) (hl : nx.length = R.nx.length) (hR : Rw E1 3 W K.gn K.cn nx) (C : Chg K.gn V W) : Rq W B K { R with nx := nx } := by
  obtain ⟨n1, n2, n3, n4, n5, n6⟩ := rq_ne h
  have hk : kindR V K.gn 3 := rw_kind h.ne
  refine ⟨?_, h.ge, own_same h.re (fun g hg => C.other g (fun e => h.dr (by rw [hg, e]))), hR, h.gen, rw_at h.me (C.other _ (Ne.symm n6)), h.gem, h.ml, fun j u l hu hl => own_same (h.ms j u l hu hl) (fun g hg => C.other g (fun e => h.dn u (List.mem_of_getElem? hu) (by rw [hg, e]))), rw_at h.be (C.other _ n4), h.geb, own_same h.te (fun g hg => C.other g (fun e => absurd ((eo_kind h.te hg).uniq (e ▸ hk)) (by decide))), h.dr, h.dn, h.du, h.dd⟩
  have hb := h.blk.chg C n1
  unfold rqC at hb ⊢
  dsimp only
  rw [hl]
  exact hb
end Go.Proofs.Ytogbhiklhcibdaa
namespace Go.Proofs.Ytogbhiklhcibdaa
open Go.RowKit
set_option linter.unusedVariables false
set_option maxRecDepth 100000

theorem set_own {α : Type} {l : List α} {i : Nat} {x : α} (h : l[i]? = some x) : l.set i x = l := by
  obtain ⟨h1, h2⟩ := List.getElem?_eq_some_iff.1 h
  subst h2
  exact List.set_getElem_self h1
def raiR (R : R6) (i : Nat) (p : Int × Int) : R6 := match R.ba[i]? with | some c => if pl c.1 c.2 p.1 p.2 = true then rsdR R i p else R | none => R
def cutR (R : R6) (cut : List (Int × Int)) : Nat → R6
  | 0 => R
  | k + 1 => match cut[k]? with | some p => raiR (cutR R cut k) k p | none => cutR R cut k
def idsR (R : R6) (o : Op5) : List Kyy := (idL o.t o.y R.sh R.res).filter fun k => !pasB R.ba k
def addR (R : R6) (src : Int) (o : Op5) : R6 := { R with tk := R.tk ++ tokL src o (idsR R o) }
def mrkR (R : R6) (i : Nat) (t : Int) : R6 := { R with ms := match R.ms[i]? with | some l => R.ms.set i (l ++ [t]) | none => R.ms }
def rooR (R : R6) (src : Int) (o : Op5) : Bool := decide (((idsT (R.tk ++ tokL src o (idsR R o))).length : Int) ≤ R.mo)
def stpR (i : Nat) (x : R6 × Option Int) (o : Op5) : R6 × Option Int := match x.2 with | some s => x | none => if o.k = 2 then (mrkR x.1 i o.t, none) else if rooR x.1 (i : Int) o = true then (addR x.1 (i : Int) o, none) else (x.1, some o.s)
def takR (R : R6) (i : Nat) (ops : List Op5) : R6 × Option Int := ops.foldl (stpR i) (R, none)
def nxR (R : R6) (i : Nat) (n : Int) : R6 := { R with nx := R.nx.set i n }
def fdR6 (R : R6) (i : Nat) (cut : List (Int × Int)) (ops : List Op5) : R6 × Option Int := takR (cutR R cut cut.length) i ops
def tkN6 (la : Int) (r : R6 × Option Int) : Int := match r.2 with | some s => s | none => wrap64 (la + 1)
def fdZ6 (R : R6) (i : Nat) (la : Int) (cut : List (Int × Int)) (ops : List Op5) : R6 := nxR (fdR6 R i cut ops).1 i (tkN6 la (fdR6 R i cut ops))
theorem stpR_stuck (i : Nat) (s : Int) : ∀ (l : List Op5) (R : R6), l.foldl (stpR i) (R, some s) = (R, some s)
  | [], _ => rfl
  | o :: l, R => by rw [List.foldl_cons]; exact stpR_stuck i s l R
theorem stpR_mark {i : Nat} {R : R6} {o : Op5} (h : o.k = 2) : stpR i (R, none) o = (mrkR R i o.t, none) := by unfold stpR; simp [h]
theorem stpR_pour {i : Nat} {R : R6} {o : Op5} (h : o.k ≠ 2) (hr : rooR R (i : Int) o = true) : stpR i (R, none) o = (addR R (i : Int) o, none) := by unfold stpR; simp [h, hr]
theorem stpR_full {i : Nat} {R : R6} {o : Op5} (h : o.k ≠ 2) (hr : rooR R (i : Int) o = false) : stpR i (R, none) o = (R, some o.s) := by unfold stpR; simp [h, hr]
theorem takR_snoc {i : Nat} {R T : R6} {ops : List Op5} {k : Nat} {o : Op5} (h : takR R i (ops.take k) = (T, none)) (ho : ops[k]? = some o) : takR R i (ops.take (k + 1)) = stpR i (T, none) o := by
  unfold takR at *
  rw [List.take_add_one, ho]
  simp only [Option.toList_some, List.foldl_append, List.foldl_cons, List.foldl_nil, h]
theorem takR_full {i : Nat} {R T : R6} {ops : List Op5} {k : Nat} {s : Int} (h : takR R i (ops.take (k + 1)) = (T, some s)) : takR R i ops = (T, some s) := by
  unfold takR at *
  rw [← List.take_append_drop (k + 1) ops, List.foldl_append, h]
  exact stpR_stuck i s _ _

/-- A source's marks. -/
def MkF (f : Flw) (l : List Int) : Prop := (l = [] ∧ f.md = false) ∨ ∃ x, l[0]? = some x ∧ f.md = true ∧ f.mt = mxF x l
theorem mkF_pnc {f : Flw} {l : List Int} (h : MkF f l) (t : Int) : MkF (pncF f t) (l ++ [t]) := by
  rcases h with ⟨rfl, h⟩ | ⟨x, h0, h1, h2⟩
  · refine .inr ⟨t, rfl, ?_, ?_⟩
    · unfold pncF; rw [if_pos (.inl h)]
    · unfold pncF; rw [if_pos (.inl h)]; simp [mxF]
  · have hl := (List.getElem?_eq_some_iff.1 h0).1
    refine .inr ⟨x, by rw [List.getElem?_append_left hl]; exact h0, ?_, ?_⟩
    · unfold pncF; split
      · rfl
      · exact h1
    · rw [mxF_snoc, ← h2]
      unfold pncF
      by_cases c : f.mt < t
      · rw [if_pos (.inr c), if_pos c]
      · rw [if_neg (fun e => by rcases e with e | e; rw [h1] at e; cases e; exact c e), if_neg c]
/-- The program's basin and the document's hold the same. -/
structure Sim (S : Bsn) (R : R6) : Prop where
  res : R.res = S.res
  sh : R.sh = S.sh
  mo : R.mo = S.mo
  nx : R.nx = S.fl.map Flw.nx
  ml : R.ms.length = S.fl.length
  ms : ∀ (i : Nat) (f : Flw) (l : List Int), S.fl[i]? = some f → R.ms[i]? = some l → MkF f l
  ba : R.ba = S.ba
  tk : TkI S R.tk
  np : ∀ x ∈ R.tk, 0 ≤ x.1.1 ∧ pasB S.ba x.1 = false
theorem Sim.npB {S : Bsn} {R : R6} (h : Sim S R) : npB S := fun k hk => by
  obtain ⟨x, hx, rfl⟩ := (h.tk.ks k).1 hk
  exact (h.np x hx).2
theorem sim_new (n : Nat) (l : List Int) (sh mo : Int) : Sim (newBsn n l sh mo) (newR6 n l sh mo) := by
  refine ⟨rfl, rfl, rfl, ?_, ?_, fun i f m hf hm => ?_, rfl, tki_new _ _ _ _, fun x h => by cases h⟩
  · show List.replicate n 1 = (List.replicate n newFl).map Flw.nx
    rw [List.map_replicate]; rfl
  · show (List.replicate n []).length = (List.replicate n newFl).length
    rw [List.length_replicate, List.length_replicate]
  · have e1 := List.eq_of_mem_replicate (List.mem_of_getElem? hf)
    have e2 := List.eq_of_mem_replicate (List.mem_of_getElem? hm)
    subst e1 e2
    exact .inl ⟨rfl, rfl⟩
theorem pas_mono {ba : List (Int × Int)} {k : Nat} {c p : Int × Int} {x : Kyy} (hc : ba[k]? = some c) (hp : pl c.1 c.2 p.1 p.2 = true) (hx : pasB ba x = true) : pasB (ba.set k p) x = true := by
  have hk := (List.getElem?_eq_some_iff.1 hc).1
  unfold pasB at *
  by_cases e : x.1.toNat = k
  · rw [e, List.getElem?_set_self hk]
    rw [e, hc] at hx
    dsimp only at *
    unfold pl at *
    have h1 := of_decide_eq_true hp
    have h2 := of_decide_eq_true hx
    apply decide_eq_true
    omega
  · rw [List.getElem?_set_ne (fun e2 => e e2.symm)]
    exact hx
/-- How far the cuts have come. -/
theorem cutR_at {S : Bsn} {R : R6} (h : Sim S R) {cut : List (Int × Int)} (hl : cut.length = S.ba.length) : ∀ k, k ≤ cut.length → cutR R cut k = { R with ba := mixP S.ba cut k, tk := R.tk.filter fun x => !pasB (mixP S.ba cut k) x.1 }
  | 0, _ => by
    unfold cutR
    rw [mixP_0, ← h.ba]
    have : (R.tk.filter fun x => !pasB R.ba x.1) = R.tk := List.filter_eq_self.2 fun x hx => by rw [h.ba, (h.np x hx).2]; rfl
    rw [this]
  | k + 1, hk => by
    have ih := cutR_at h hl k (by omega)
    obtain ⟨p, hp⟩ : ∃ p, cut[k]? = some p := ⟨cut[k], List.getElem?_eq_getElem (by omega)⟩
    obtain ⟨c, hc⟩ : ∃ c, S.ba[k]? = some c := ⟨S.ba[k]'(by omega), List.getElem?_eq_getElem (by omega)⟩
    have hm : (mixP S.ba cut k)[k]? = some c := by rw [mixP_at hl (by omega)]; exact hc
    show (match cut[k]? with | some p => raiR (cutR R cut k) k p | none => cutR R cut k) = _
    rw [hp, ih]
    dsimp only
    unfold raiR
    dsimp only
    rw [hm]
    dsimp only
    by_cases hq : pl c.1 c.2 p.1 p.2 = true
    · rw [if_pos hq]
      have e1 : mixP S.ba cut (k + 1) = (mixP S.ba cut k).set k p := by rw [mixP_next hl hc hp, mxP_yes hq]
      unfold rsdR
      dsimp only
      rw [e1, List.filter_filter]
      have e2 : (R.tk.filter fun x => kpT k p x && !pasB (mixP S.ba cut k) x.1) = R.tk.filter fun x => !pasB ((mixP S.ba cut k).set k p) x.1 := by
        apply List.filter_congr
        intro x hx
        cases hx2 : pasB (mixP S.ba cut k) x.1
        · rw [kpT_pas hm (h.np x hx).1 hx2]; simp
        · rw [pas_mono hm hq hx2]; simp
      rw [e2]
    · rw [if_neg hq]
      have e1 : mixP S.ba cut (k + 1) = mixP S.ba cut k := mixP_same hl hc hp (mxP_no (by simpa using hq))
      rw [e1]
theorem sim_cut {S : Bsn} {R : R6} (h : Sim S R) {cut : List (Int × Int)} (hl : cut.length = S.ba.length) : Sim (drpB (cutB S cut)) (cutR R cut cut.length) := by
  rw [cutR_at h hl cut.length (Nat.le_refl _)]
  have e : mixP S.ba cut cut.length = (cutB S cut).ba := by rw [hl]; exact mixP_all hl
  rw [e]
  have h2 : TkI (cutB S cut) R.tk := tki_of h.tk rfl rfl
  refine ⟨h.res, h.sh, h.mo, h.nx, h.ml, h.ms, rfl, tki_drp h2, fun x hx => ?_⟩
  obtain ⟨h3, h4⟩ := List.mem_filter.1 hx
  refine ⟨(h.np x h3).1, ?_⟩
  show pasB (cutB S cut).ba x.1 = false
  simpa using h4
theorem sim_rai {S : Bsn} {R : R6} (h : Sim S R) (hok : Okb S) {i : Nat} {p c : Int × Int} (hc : S.ba[i]? = some c) : Sim (drpB (lifB S i p)) (raiR R i p) := by
  unfold raiR
  rw [h.ba, hc]
  dsimp only
  by_cases hq : pl c.1 c.2 p.1 p.2 = true
  · rw [if_pos hq]
    have h1 : lifB S i p = { S with ba := S.ba.set i p } := by rw [lifB_at hc, mxP_yes hq]
    refine ⟨h.res, h.sh, h.mo, h.nx, h.ml, h.ms, ?_, tki_rai h.tk hc hq h.np, fun x hx => ?_⟩
    · show R.ba.set i p = (lifB S i p).ba
      rw [h1, h.ba]
    · obtain ⟨h3, h4⟩ := List.mem_filter.1 hx
      refine ⟨(h.np x h3).1, ?_⟩
      rw [kpT_pas hc (h.np x h3).1 (h.np x h3).2] at h4
      show pasB (lifB S i p).ba x.1 = false
      rw [h1]
      simpa using h4
  · rw [if_neg hq]
    have h1 : lifB S i p = S := by rw [lifB_at hc, mxP_no (by simpa using hq), set_own hc]
    rw [h1, drp_np h.npB hok.cz]
    exact h
theorem sim_mark {S : Bsn} {R : R6} (h : Sim S R) {i : Nat} (hi : i < S.fl.length) (t : Int) : Sim (pncB S i t) (mrkR R i t) := by
  obtain ⟨f, hf⟩ : ∃ f, S.fl[i]? = some f := ⟨S.fl[i], List.getElem?_eq_getElem hi⟩
  obtain ⟨l, hl⟩ : ∃ l, R.ms[i]? = some l := ⟨R.ms[i]'(by rw [h.ml]; exact hi), List.getElem?_eq_getElem _⟩
  have e1 : mrkR R i t = { R with ms := R.ms.set i (l ++ [t]) } := by unfold mrkR; rw [hl]
  rw [e1, pncB_at t hf]
  refine ⟨h.res, h.sh, h.mo, ?_, ?_, fun j g m hg hm => ?_, h.ba, tki_of h.tk rfl rfl, h.np⟩
  · show R.nx = (S.fl.set i (pncF f t)).map Flw.nx
    rw [h.nx, List.map_set]
    have e2 : (pncF f t).nx = f.nx := by unfold pncF; split <;> rfl
    rw [e2]
    exact (set_own (by rw [List.getElem?_map, hf]; rfl)).symm
  · show (R.ms.set i _).length = (S.fl.set i _).length
    rw [List.length_set, List.length_set]; exact h.ml
  · have hg' : (S.fl.set i (pncF f t))[j]? = some g := hg
    have hm' : (R.ms.set i (l ++ [t]))[j]? = some m := hm
    by_cases e : i = j
    · subst e
      rw [List.getElem?_set_self hi] at hg'
      rw [List.getElem?_set_self (by rw [h.ml]; exact hi)] at hm'
      cases hg'
      cases hm'
      exact mkF_pnc (h.ms i f l hf hl) t
    · rw [List.getElem?_set_ne e] at hg' hm'
      exact h.ms j g m hg' hm'
theorem sim_ids {S : Bsn} {R : R6} (h : Sim S R) (o : Op5) : idsR R o = idsB S o := by unfold idsR idsB; rw [h.res, h.sh, h.ba]
theorem sim_roo {S : Bsn} {R : R6} (h : Sim S R) (hok : Okb S) {src : Int} {o : Op5} (hs : J64 src) (ho : Fit5 o) (hl : R.tk.length + 3 ≤ 2000) : rooR R src o = rooB S o := by
  have h1 := idsB_len S o
  have h2 := hok.r1
  rw [roo_ids h.tk hok src o hs ho (by omega) (idsB_nodup hok o)]
  unfold rooR
  rw [sim_ids h, h.mo]
theorem sim_add {S : Bsn} {R : R6} (h : Sim S R) (hok : Okb S) {src : Int} {o : Op5} (hs : J64 src) (ho : Fit5 o) (hl : R.tk.length + 3 ≤ 2000) : Sim (pouB S src o) (addR R src o) := by
  have h1 := idsB_len S o
  have h2 := hok.r1
  obtain ⟨k1, k2, k3, k4, k5⟩ := pou_same S src o
  have e : addR R src o = { R with tk := R.tk ++ tokL src o (idsB S o) } := by unfold addR; rw [sim_ids h]
  rw [e]
  refine ⟨h.res.trans k1.symm, h.sh.trans k2.symm, h.mo.trans k3.symm, ?_, ?_, fun i f l hf hl => ?_, h.ba.trans k5.symm, tki_pou h.tk hok src o hs ho (by omega), fun x hx => ?_⟩
  · rw [k4]; exact h.nx
  · rw [k4]; exact h.ml
  · rw [k4] at hf; exact h.ms i f l hf hl
  · rw [k5]
    rcases List.mem_append.1 hx with hx | hx
    · exact h.np x hx
    · obtain ⟨k, hk, rfl⟩ := List.mem_map.1 hx
      refine ⟨(idsB_mem hok ho hk).2.1, ?_⟩
      have := (List.mem_filter.1 hk).2
      simpa using this
theorem addR_len {R : R6} {src : Int} {o : Op5} (h : R.res.length ≤ 3) : (addR R src o).tk.length ≤ R.tk.length + 3 := by
  show (R.tk ++ tokL src o (idsR R o)).length ≤ _
  have h1 : (idsR R o).length ≤ R.res.length := by
    have := List.length_filter_le (fun k => !pasB R.ba k) (idL o.t o.y R.sh R.res)
    rw [idL_len] at this
    exact this
  rw [List.length_append, show (tokL src o (idsR R o)).length = (idsR R o).length by unfold tokL; rw [List.length_map]]
  omega
theorem sim_tak (i : Nat) (hs : J64 (i : Int)) : ∀ (ops : List Op5) (S : Bsn) (R : R6), Sim S R → Okb S → i < S.fl.length → (∀ o ∈ ops, Fit5 o) → R.tk.length + 3 * ops.length ≤ 2000 →
    (takR R i ops).2 = (takB S i ops).2 ∧ Sim (takB S i ops).1 (takR R i ops).1 ∧ Okb (takB S i ops).1 ∧ (takB S i ops).1.fl.length = S.fl.length ∧ (takR R i ops).1.tk.length ≤ R.tk.length + 3 * ops.length
  | [], S, R, h, hok, hi, hf, hl => ⟨rfl, h, hok, rfl, by show R.tk.length ≤ _; omega⟩
  | o :: l, S, R, h, hok, hi, hf, hl => by
    rw [List.length_cons] at hl ⊢
    have ho := hf o (by simp)
    unfold takR takB
    rw [List.foldl_cons, List.foldl_cons]
    by_cases hk : o.k = 2
    · rw [stpR_mark hk, stp_mark hk]
      have hl2 : (pncB S i o.t).fl.length = S.fl.length := by
        obtain ⟨f, hfi⟩ : ∃ f, S.fl[i]? = some f := ⟨S.fl[i], List.getElem?_eq_getElem hi⟩
        rw [pncB_at _ hfi]; simp
      have ih := sim_tak i hs l _ _ (sim_mark h hi o.t) (okb_pnc hok ho.t) (by rw [hl2]; exact hi) (fun x hx => hf x (by simp [hx])) (by show R.tk.length + _ ≤ _; omega)
      obtain ⟨i1, i2, i3, i4, i5⟩ := ih
      exact ⟨i1, i2, i3, i4.trans hl2, by have : (mrkR R i o.t).tk.length = R.tk.length := rfl; have i6 : (takR (mrkR R i o.t) i l).1.tk.length ≤ (mrkR R i o.t).tk.length + 3 * l.length := i5; show (takR (mrkR R i o.t) i l).1.tk.length ≤ _; omega⟩
    · have hro := sim_roo h hok hs ho (by omega)
      cases hb : rooB S o
      · rw [hb] at hro
        rw [stpR_full hk hro, stp_full hk hb, stpR_stuck, stp_stuck]
        exact ⟨rfl, h, hok, rfl, by show R.tk.length ≤ _; omega⟩
      · rw [hb] at hro
        rw [stpR_pour hk hro, stp_pour hk hb]
        have hr3 : R.res.length ≤ 3 := by rw [h.res]; exact hok.r1
        have hal := addR_len (R := R) (src := (i : Int)) (o := o) hr3
        have ih := sim_tak i hs l _ _ (sim_add h hok hs ho (by omega)) (okb_pou hok ho hs hb) (by rw [pou_fl]; exact hi) (fun x hx => hf x (by simp [hx])) (by omega)
        obtain ⟨i1, i2, i3, i4, i5⟩ := ih
        exact ⟨i1, i2, i3, i4.trans (by rw [pou_fl]), by have i6 : (takR (addR R (i : Int) o) i l).1.tk.length ≤ (addR R (i : Int) o).tk.length + 3 * l.length := i5; show (takR (addR R (i : Int) o) i l).1.tk.length ≤ _; omega⟩
theorem sim_nxt {S : Bsn} {R : R6} (h : Sim S R) {i : Nat} (hi : i < S.fl.length) (n : Int) : Sim (nxtB S i n) (nxR R i n) := by
  obtain ⟨f, hf⟩ : ∃ f, S.fl[i]? = some f := ⟨S.fl[i], List.getElem?_eq_getElem hi⟩
  rw [nxtB_at n hf]
  refine ⟨h.res, h.sh, h.mo, ?_, ?_, fun j g m hg hm => ?_, h.ba, tki_of h.tk rfl rfl, h.np⟩
  · show R.nx.set i n = (S.fl.set i { f with nx := n }).map Flw.nx
    rw [h.nx, List.map_set]
  · show R.ms.length = (S.fl.set i _).length
    rw [List.length_set]; exact h.ml
  · have hg' : (S.fl.set i { f with nx := n })[j]? = some g := hg
    by_cases e : i = j
    · subst e
      rw [List.getElem?_set_self hi] at hg'
      cases hg'
      exact h.ms i f m hf hm
    · rw [List.getElem?_set_ne e] at hg'
      exact h.ms j g m hg' hm
/-- Feed, side by side. -/
theorem sim_feed {S : Bsn} {R : R6} (h : Sim S R) (hok : Okb S) {i : Nat} (hi : i < S.fl.length) {cut : List (Int × Int)} {ops : List Op5} (la : Int) (hl : cut.length = S.ba.length) (hcj : ∀ p ∈ cut, J64 p.1 ∧ J64 p.2) (hf : ∀ o ∈ ops, Fit5 o) (hn : R.tk.length + 3 * ops.length ≤ 2000) :
    (fdR6 R i cut ops).2 = (fdR S i cut ops).2 ∧ Sim (fdZ S i la cut ops) (fdZ6 R i la cut ops) ∧ (fdZ6 R i la cut ops).tk.length ≤ R.tk.length + 3 * ops.length := by
  have h1 := sim_cut h hl
  have hl2 : (cutR R cut cut.length).tk.length ≤ R.tk.length := by
    rw [cutR_at h hl cut.length (Nat.le_refl _)]
    exact List.length_filter_le _ _
  have hok2 : Okb (drpB (cutB S cut)) := okb_drp (okb_cut hok hl hcj)
  obtain ⟨i1, i2, i3, i4, i5⟩ := sim_tak i (src_J hok hi) ops _ _ h1 hok2 hi hf (by omega)
  refine ⟨i1, ?_, ?_⟩
  · unfold fdZ fdZ6
    have e : tkN6 la (fdR6 R i cut ops) = tkN la (fdR S i cut ops) := by unfold tkN6 tkN fdR6 fdR; rw [i1]; rfl
    rw [e]
    exact sim_nxt i2 (by show i < (takB (drpB (cutB S cut)) i ops).1.fl.length; rw [i4]; exact hi) _
  · show (takR (cutR R cut cut.length) i ops).1.tk.length ≤ _
    omega
end Go.Proofs.Ytogbhiklhcibdaa
namespace Go.Proofs.Ytogbhiklhcibdaa
open Go.RowKit
set_option linter.unusedVariables false
set_option maxRecDepth 100000

/-- A basin of the document's as its calls need it. -/
structure OkR (R : R6) : Prop where
  r1 : R.res.length ≤ 3
  rr : ∀ r ∈ R.res, r ≤ 9223372036854775807
  s0 : 1 ≤ R.sh
  s1 : R.sh ≤ 4
  bl : (R.ba.length : Int) = (R.res.length : Int) * R.sh
  mn : R.ms.length = R.nx.length
  n4 : R.nx.length ≤ 4
theorem OkR.lan {R : R6} (h : OkR R) : R.ba.length ≤ 12 := by
  have h1 := h.bl
  have : (R.res.length : Int) * R.sh ≤ 3 * 4 := Int.mul_le_mul (by have := h.r1; omega) h.s1 (by have := h.s0; omega) (by omega)
  omega
theorem sim_okR {S : Bsn} {R : R6} (h : Sim S R) (hok : Okb S) : OkR R :=
  ⟨by rw [h.res]; exact hok.r1, by rw [h.res]; exact fun r hr => (hok.rr r hr).2, by rw [h.sh]; exact hok.s0, by rw [h.sh]; exact hok.s1, by rw [h.ba, h.res, h.sh]; exact hok.bl, by rw [h.ml, h.nx, List.length_map], by rw [h.nx, List.length_map]; exact hok.f1⟩
/-- What stays while it is fed. -/
structure KpR (R R' : R6) : Prop where
  res : R'.res = R.res
  sh : R'.sh = R.sh
  mo : R'.mo = R.mo
  nx : R'.nx = R.nx
  ml : R'.ms.length = R.ms.length
  bl : R'.ba.length = R.ba.length
theorem KpR.refl (R : R6) : KpR R R := ⟨rfl, rfl, rfl, rfl, rfl, rfl⟩
theorem KpR.trans {R R' R'' : R6} (h : KpR R R') (k : KpR R' R'') : KpR R R'' := ⟨k.res.trans h.res, k.sh.trans h.sh, k.mo.trans h.mo, k.nx.trans h.nx, k.ml.trans h.ml, k.bl.trans h.bl⟩
theorem KpR.ok {R R' : R6} (h : KpR R R') (k : OkR R) : OkR R' := ⟨by rw [h.res]; exact k.r1, by rw [h.res]; exact k.rr, by rw [h.sh]; exact k.s0, by rw [h.sh]; exact k.s1, by rw [h.bl, h.res, h.sh]; exact k.bl, by rw [h.ml, h.nx]; exact k.mn, by rw [h.nx]; exact k.n4⟩
theorem kpR_rai (R : R6) (i : Nat) (p : Int × Int) : KpR R (raiR R i p) ∧ (raiR R i p).tk.length ≤ R.tk.length ∧ (raiR R i p).ms = R.ms := by
  unfold raiR
  split
  · split
    · exact ⟨⟨rfl, rfl, rfl, rfl, rfl, by show (R.ba.set i p).length = _; rw [List.length_set]⟩, List.length_filter_le _ _, rfl⟩
    · exact ⟨KpR.refl R, Nat.le_refl _, rfl⟩
  · exact ⟨KpR.refl R, Nat.le_refl _, rfl⟩
theorem kpR_cut (R : R6) (cut : List (Int × Int)) : ∀ k, KpR R (cutR R cut k) ∧ (cutR R cut k).tk.length ≤ R.tk.length ∧ (cutR R cut k).ms = R.ms
  | 0 => ⟨KpR.refl R, Nat.le_refl _, rfl⟩
  | k + 1 => by
    obtain ⟨h1, h2, h3⟩ := kpR_cut R cut k
    show KpR R (match cut[k]? with | some p => raiR (cutR R cut k) k p | none => cutR R cut k) ∧ (match cut[k]? with | some p => raiR (cutR R cut k) k p | none => cutR R cut k).tk.length ≤ _ ∧ (match cut[k]? with | some p => raiR (cutR R cut k) k p | none => cutR R cut k).ms = _
    split
    · rename_i p _
      obtain ⟨k1, k2, k3⟩ := kpR_rai (cutR R cut k) k p
      exact ⟨h1.trans k1, Nat.le_trans k2 h2, k3.trans h3⟩
    · exact ⟨h1, h2, h3⟩
theorem kpR_mark {R : R6} {i : Nat} (t : Int) : KpR R (mrkR R i t) := ⟨rfl, rfl, rfl, rfl, by unfold mrkR; dsimp only; split <;> simp, rfl⟩
theorem kpR_add (R : R6) (src : Int) (o : Op5) : KpR R (addR R src o) := ⟨rfl, rfl, rfl, rfl, rfl, rfl⟩
theorem mrkR_at {R : R6} {i : Nat} {l : List Int} (t : Int) (h : R.ms[i]? = some l) : mrkR R i t = { R with ms := R.ms.set i (l ++ [t]) } := by unfold mrkR; rw [h]
/-- Raise of a lane that is there. -/
theorem rraise16_any {B : Nat} {K : Rk} {R : R6} (i : Nat) (p : Int × Int) (w : World) (h : Rq w B K R) (hBw : B ≤ w.heap.size) (hi : i < R.ba.length) (hT : R.tk.length ≤ 100000) :
    Calls Try.prog 19 #[r6ptr K, .int .i64 (i : Int), Plc p.1 p.2] w fun e w' => ∃ vt n, e = .returned (.tuple #[.int .i64 n, .int .i64 0]) ∧ Rq w' B { K with vt := vt } (raiR R i p) ∧ Frm (fun k => k = K.b ∨ k = K.gb) w w' := by
  obtain ⟨c, hc⟩ : ∃ c, R.ba[i]? = some c := ⟨R.ba[i], List.getElem?_eq_getElem hi⟩
  cases hpl : pl c.1 c.2 p.1 p.2
  · refine (rraise16_no i p c w h hc hpl).mono ?_
    rintro e w' ⟨rfl, hb⟩
    refine ⟨K.vt, 0, rfl, ?_, frm_below hb⟩
    have e1 : raiR R i p = R := by unfold raiR; rw [hc]; dsimp only; rw [if_neg (by rw [hpl]; simp)]
    rw [e1]
    exact h.keep hb
  · refine (rraise16_yes i p c w h hBw hc hpl hT).mono ?_
    rintro e w' ⟨vt, rfl, hq, hf⟩
    refine ⟨vt, _, rfl, ?_, hf⟩
    have e1 : raiR R i p = rsdR R i p := by unfold raiR; rw [hc]; dsimp only; rw [if_pos hpl]
    rw [e1]
    exact hq
/-- The rows of marks, as they grow. -/
def UsG (w : World) (us us' : List Sv) : Prop := ∀ u ∈ us', ∀ g, (svV u).ownBlock = some g → (∃ u0 ∈ us, (svV u0).ownBlock = some g) ∨ w.heap.size ≤ g
theorem UsG.refl (w : World) (us : List Sv) : UsG w us us := fun u hu g hg => .inl ⟨u, hu, hg⟩
theorem UsG.set {w W : World} {us us' : List Sv} {i : Nat} {u u' : Sv} (h : UsG w us us') (hi : us'[i]? = some u) (hs : w.heap.size ≤ W.heap.size) (ha : (svV u').ownBlock = (svV u).ownBlock ∨ (svV u').ownBlock = some W.heap.size) : UsG w us (us'.set i u') := fun x hx g hg => by
  rcases List.mem_or_eq_of_mem_set hx with hx | rfl
  · exact h x hx g hg
  · rcases ha with e | e
    · exact h u (List.mem_of_getElem? hi) g (by rw [← e]; exact hg)
    · rw [hg] at e
      have : g = W.heap.size := by simpa using e
      exact .inr (by omega)
/-- One row of marks stored. -/
theorem stSvW {o : Oper} {a : Act} {w : World} {K : Act → World → Prop} {Q : Exit → Act → World → Prop} (d : Option Tmp) (hd : o.dst = d) {x y : Operand} (ho : o.op = .store 38 x y) {g cap i : Nat} {L : List Sv} (h : Rw ESv 38 w g cap L) (hi : i < L.length) (c : Sv)
    (hx : a.eval x = .pointer (some ⟨g, i, none⟩)) (hy : a.eval y = svV c) (hK : ∀ W', Rw ESv 38 W' g cap (L.set i c) → Chg g w W' → K (a.put d undef) W') : o.wp Try.prog a w K Q := by
  subst hd
  have hL := List.getElem?_eq_getElem hi
  have hc : w.cell? ⟨g, i, none⟩ = some (svV L[i]) := by
    have := h.cell hL (i := 0) (u := svV L[i]) rfl
    simpa [show ESv.k = 1 from rfl] using this
  have hf : w.frozen? ⟨g, i, none⟩ = false := h.chgc i
  have hs := h.setc (c' := c) (j := 0) (v := svV c) hL (by show 0 < 1; omega) rfl
  rw [Nat.add_zero, show ESv.k = 1 from rfl, Nat.mul_one] at hs
  have h' := hK _ hs (chg_set w g i _)
  unfold svV at hc hy h'
  unfold Oper.wp execOp
  simp only [ho, hx, hy]
  go_simp
  exact h'
/-- A number in a row of its own. -/
theorem bsI1W {o : Oper} {a : Act} {w : World} {K : Act → World → Prop} {Q : Exit → Act → World → Prop} (d : Option Tmp) (hd : o.dst = d) {parts : Array (Nat × Operand)} (ho : o.op = .buildSlice 38 1 parts) (x : Int) (hl : parts.map (fun (i, x) => (i, a.eval x)) = #[(0, .int .i64 x)])
    (h : ∀ W', Blk W' w.heap.size #[.int .i64 x] 3 → Below w.heap.size w W' → K (a.put d (.slice (some ⟨w.heap.size, 0, none⟩) 1 1)) W') : o.wp Try.prog a w K Q := by
  subst hd
  unfold Oper.wp execOp
  simp only [ho, Sem.run_bind, hl, bs_is1, Result.andThen_ok]
  exact h _ (Blk.new _ _ _) ((Below.refl _ _).alloc (Nat.le_refl _) _)
theorem filt_take {α : Type} {L : List α} {j : Nat} {x : α} (p : α → Bool) (hx : L[j]? = some x) : (L.take (j + 1)).filter p = (L.take j).filter p ++ (if p x = true then [x] else []) := by
  rw [List.take_add_one, hx, List.filter_append]
  congr 1
  by_cases e : p x = true <;> simp [e]
theorem grown_cell {W W' : World} {ob : Option Nat} {k i : Nat} (hg : W.grownBy W' ob) (hk : k < W.heap.size) (hn : some k ≠ ob) : W'.cell? ⟨k, i, none⟩ = W.cell? ⟨k, i, none⟩ := by
  unfold World.cell?
  rw [hg.block k hk hn]
theorem frm_grownO {X : Nat → Prop} {A B : World} {ob : Option Nat} (h : A.grownBy B ob) (hb : ∀ g, ob = some g → X g) : Frm X A B := ⟨h.os, h.tape, h.output, h.size, fun i hi hx => h.block i hi (fun e => hx (hb i e.symm))⟩
theorem bs_tk0 (w : World) : (Instr.buildSlice 104 0 #[]).run Try.prog w = .ok (.slice (some ⟨w.heap.size, 0, none⟩) 0 0) (w.alloc (.cells #[] 110)) := by kernel_rfl
/-- One number stored. -/
theorem stI1W {o : Oper} {a : Act} {w : World} {K : Act → World → Prop} {Q : Exit → Act → World → Prop} (d : Option Tmp) (hd : o.dst = d) {x y : Operand} (ho : o.op = .store 3 x y) {g cap i : Nat} {L : List Int} (h : Rw E1 3 w g cap L) (hi : i < L.length) (c : Int)
    (hx : a.eval x = .pointer (some ⟨g, i, none⟩)) (hy : a.eval y = .int .i64 c) (hK : ∀ W', Rw E1 3 W' g cap (L.set i c) → Chg g w W' → K (a.put d undef) W') : o.wp Try.prog a w K Q := by
  subst hd
  have hL := List.getElem?_eq_getElem hi
  have hc : w.cell? ⟨g, i, none⟩ = some (.int .i64 L[i]) := by
    have := h.cell hL (i := 0) (u := .int .i64 L[i]) rfl
    simpa [show E1.k = 1 from rfl] using this
  have hf : w.frozen? ⟨g, i, none⟩ = false := h.chgc i
  have hs := h.setc (c' := c) (j := 0) (v := .int .i64 c) hL (by show 0 < 1; omega) rfl
  rw [Nat.add_zero, show E1.k = 1 from rfl, Nat.mul_one] at hs
  have h' := hK _ hs (chg_set w g i _)
  unfold Oper.wp execOp
  simp only [ho, hx, hy]
  go_simp
  exact h'
theorem op_zero (w : World) : (zeroValue 35).run Try.prog w = .ok (.agg (opA ⟨0, 0, 0, 0, 0⟩)) w := by kernel_rfl
theorem infoO5 (o : Op5) : (Try.prog.info? 35).map (·.size) = some (opA o).size := by kernel_rfl
theorem opA_one (o : Op5) : (opA o).all (·.oneCell') = true := by rw [← Array.all_toList]; exact List.all_eq_true.2 (E5.one o)
end Go.Proofs.Ytogbhiklhcibdaa
