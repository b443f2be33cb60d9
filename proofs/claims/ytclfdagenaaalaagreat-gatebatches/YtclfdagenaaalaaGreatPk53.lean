/-
  gate's Batch: which batch a note has.
  The document's Same, of batches that are the same.
  slices.Equal of entries.
  Same of any two batches: gate's.
  Same of any two batches: the document's.
-/
import Derived.Test.YtclfdagenaaalaaGreatPk52
import Derived.Test.YtclfdagenaaalaaGreatPk48
import Derived.Test.YtclfdagenaaalaaGreatPk40
import Derived.Test.YtclfdagenaaalaaGreatPk46
import Derived.Test.YtclfdagenaaalaaGreatPk42
namespace Go.Proofs.YtclfdagenaaalaaGreat
open Go.RowKit Go.Maps
set_option linter.unusedVariables false
set_option maxRecDepth 100000

theorem alW17 {P : Program} {o : Oper} {a : Act} {w : World} {K : Act → World → Prop} {Q : Exit → Act → World → Prop} (d : Option Tmp) (hd : o.dst = d) {ty : TypeId} (ho : o.op = .alloc ty) (z : Array Value) (hz : (zeroValue ty).run P w = .ok (.agg z) w)
    (h : ∀ W', Blk W' w.heap.size z ty → Below w.heap.size w W' → K (a.put d (.pointer (some ⟨w.heap.size, 0, none⟩))) W') : o.wp P a w K Q := by
  subst hd
  have h' := h _ (Blk.new _ _ _) ((Below.refl _ _).alloc (Nat.le_refl _) _)
  unfold Oper.wp execOp
  simp only [ho, Instr.alloc, Sem.run_bind, hz, Result.andThen_ok]
  simp [newVar, newRow, Value.cells, go_sem]
  exact h'
/-- A note with entries. -/
def ntE (N : Nt) (l : List Ent) : Nt := { N with es := l.map entF }
/-- Its batch. -/
def ntB (N : Nt) (l : List Ent) : Btc := ⟨N.ns.getD 0 0, N.ns.getD 1 0, (N.ns.getD 2 0, N.ns.getD 3 0), (N.ns.getD 4 0, N.ns.getD 5 0), l⟩
def GbOK (N : Nt) (l : List Ent) : Prop := N.k = 8 ∧ GoodN (ntE N l) ∧ GkP (ntB N l)
/-- What Batch answers. -/
def GbE (B : Nat) (e : Ending) (w' : World) (N : Nt) (l : List Ent) : Prop := (GbOK N l ∧ ∃ v, e = .returned (.tuple #[.agg (btA (ntB N l) v), .nilIface]) ∧ EO EE 79 w' B v l) ∨ (¬ GbOK N l ∧ e = .returned (.tuple #[.agg (btA zBt (.slice none 0 0)), Err 2]))
theorem gb_no {B : Nat} {w' : World} {N : Nt} {l : List Ent} (h : ¬ GbOK N l) : GbE B (.returned (.tuple #[.agg (btA zBt (.slice none 0 0)), Err 2])) w' N l := .inr ⟨h, rfl⟩
theorem neNilErr (w : World) : (binOp .neq 39 (Err 2) .nilIface).run Tryz.prog w = .ok (.bool true) w := by kernel_rfl
theorem neNilNil (w : World) : (binOp .neq 39 .nilIface .nilIface).run Tryz.prog w = .ok (.bool false) w := by kernel_rfl
set_option maxHeartbeats 2000000 in
theorem gbatch_any (N : Nt) (l : List Ent) (vn vo ve : Value) (w : World) (h1 : Is w vn N.ns) (h2 : SR 5 k64 w vo N.os) (h3 : ER EE w ve l) :
    Calls Tryz.prog 14 #[ntV N vn vo ve] w fun e w' => GbE w.heap.size e w' N l ∧ Below w.heap.size w w' := by
  have HCk := fun (V : World) (hV : Below w.heap.size w V) => check_any (ntE N l) vn vo ve V (h1.keep hV) (h2.keep hV) ((er_sr76 h3).keep hV)
  have HI : Hid (∀ V, Below w.heap.size w V → Is V vn N.ns ∧ ER EE V ve l) := fun V hV => ⟨h1.keep hV, h3.keep hV⟩
  obtain ⟨qn, cn, en⟩ := h1.form
  obtain ⟨qo, co, go, oo, eo, -⟩ := h2
  obtain ⟨qe, ce, ee⟩ := h3.form
  subst en eo ee
  clear h1 h3
  obtain ⟨k, f, t, ns, os, es⟩ := N
  unfold ntE at HCk
  try dsimp only at *
  generalize hnl : l.length = nl at *
  generalize hnn : ns.length = nn at *
  generalize hno : os.length = no at *
  obtain ⟨A, hE, hX, hw⟩ := blk1 w #[.int .i64 k, .int .i64 f, .int .i64 t, .slice qn nn cn, .slice qo no co, .slice qe nl ce] 36
  have x0 : A.cell? ⟨w.heap.size, 0, none⟩ = some (.int .i64 k) := hX.at rfl
  have x1 : A.cell? ⟨w.heap.size, 1, none⟩ = some (.int .i64 f) := hX.at rfl
  have x2 : A.cell? ⟨w.heap.size, 2, none⟩ = some (.int .i64 t) := hX.at rfl
  have x3 : A.cell? ⟨w.heap.size, 3, none⟩ = some (.slice qn nn cn) := hX.at rfl
  have x4 : A.cell? ⟨w.heap.size, 4, none⟩ = some (.slice qo no co) := hX.at rfl
  have x5 : A.cell? ⟨w.heap.size, 5, none⟩ = some (.slice qe nl ce) := hX.at rfl
  have hXl := hX.lt
  have Ne1 := neNilErr
  have Ne0 := neNilNil
  have HX : Hid (∀ V, Below A.heap.size A V → Blk V w.heap.size #[.int .i64 k, .int .i64 f, .int .i64 t, .slice qn nn cn, .slice qo no co, .slice qe nl ce] 36 ∧ Below w.heap.size w V) := fun V hV => ⟨hX.keep hV, ab_trans hw hV⟩
  clear hX hw
  by_cases hk : k = 8
  · have hkb : (k != 8) = false := by simp [hk]
    have HK8 : Hid (k = 8) := hk
    by_cases hg : GoodN ⟨k, f, t, ns, os, l.map entF⟩
    · have HCk2 : ∀ V, Below w.heap.size w V → Calls Tryz.prog 30 #[.agg #[.int .i64 k, .int .i64 f, .int .i64 t, .slice qn nn cn, .slice qo no co, .slice qe nl ce]] V fun e w' => e = .returned .nilIface ∧ Below V.heap.size V w' := fun V hV => (HCk V hV).mono (fun e w' ⟨h1, h2⟩ => ⟨h1.1 hg, h2⟩)
      have h6 : nn = 6 := by
        have := hg.fit
        unfold FitK at this
        dsimp only at this
        rw [List.length_map] at this
        omega
      have hns : ∃ a b c d e g, ns = [a, b, c, d, e, g] := by
        match ns, (show ns.length = 6 by omega) with
        | [a, b, c, d, e, g], _ => exact ⟨a, b, c, d, e, g, rfl⟩
      obtain ⟨ep, ln, f0, f1, t0, t1, rfl⟩ := hns
      have HGd : Hid (GoodN ⟨k, f, t, [ep, ln, f0, f1, t0, t1], os, l.map entF⟩) := hg
      have hl16 : nl ≤ 16 := by
        have h9 := (fitK_le hg.fit).2.2.2.2.1
        dsimp only at h9
        rw [List.length_map] at h9
        omega
      have HBt : Hid (ntB ⟨k, f, t, [ep, ln, f0, f1, t0, t1], os, es⟩ l = ⟨ep, ln, (f0, f1), (t0, t1), l⟩) := rfl
      clear HCk hg hk hnn
      subst h6
      go_enter Tryz.func14, Tryz.ntmps14
      go_upto_region 1 with (refine al_blk rfl rfl (btA zBt (.slice none 0 0)) (zero_bt _) ?_; intro W1 e1 hX1 b1; clear e1)
      obtain ⟨hXn, hwn⟩ := HX.out W1 b1
      have y0 : W1.cell? ⟨w.heap.size, 0, none⟩ = some (.int .i64 k) := hXn.at rfl
      have y1 : W1.cell? ⟨w.heap.size, 1, none⟩ = some (.int .i64 f) := hXn.at rfl
      have y2 : W1.cell? ⟨w.heap.size, 2, none⟩ = some (.int .i64 t) := hXn.at rfl
      have y3 : W1.cell? ⟨w.heap.size, 3, none⟩ = some (.slice qn 6 cn) := hXn.at rfl
      have y4 : W1.cell? ⟨w.heap.size, 4, none⟩ = some (.slice qo no co) := hXn.at rfl
      have y5 : W1.cell? ⟨w.heap.size, 5, none⟩ = some (.slice qe nl ce) := hXn.at rfl
      clear x0 x1 x2 x3 x4 x5 hE
      go_upto_region 3 with (go_at_call 30; refine (HCk2 _ hwn).mono ?_; rintro e W2 ⟨rfl, b2⟩)
      have hX2 := hX1.keep b2
      have b12 := ab_trans b1 b2
      obtain ⟨hXn2, hw2⟩ := HX.out W2 b12
      have z3 : W2.cell? ⟨w.heap.size, 3, none⟩ = some (.slice qn 6 cn) := hXn2.at rfl
      have hIn := (HI.out W2 hw2).1
      clear y0 y1 y2 y3 y4 y5 Ne1 HCk2 hX1 hXn hXn2 hwn b1 b2
      go_upto_region 4 with (refine sli_l W2 rfl rfl 2 rfl rfl rfl (by omega) hIn ?_; intro q5 hI5'; have hI5 : Is W2 (.slice q5 4 (cn - 2)) [f0, f1, t0, t1] := hI5'; clear hI5')
      refine (places_any (.slice q5 4 (cn - 2)) [f0, f1, t0, t1] 2 W2 hI5 (by simp) (by show 4 ≤ 1000000; omega)).mono ?_
      rintro e W3 ⟨v3, rfl, hO3, b3⟩
      go_upto_region 4 with fail
      obtain ⟨g3, o3, c3, hv3, hcp⟩ : ∃ g3 o3 c3, v3 = .slice (some ⟨g3, o3, none⟩) 2 c3 ∧ (∀ V, Below W3.heap.size W3 V → V.cell? ⟨g3, o3, none⟩ = some (.int .i64 f0) ∧ V.cell? ⟨g3, o3 + 1, none⟩ = some (.int .i64 f1) ∧ V.cell? ⟨g3, o3 + 2, none⟩ = some (.int .i64 t0) ∧ V.cell? ⟨g3, o3 + 3, none⟩ = some (.int .i64 t1)) := by
        obtain ⟨q, cp, gg, off, ev, h1, h2, h3, h4, h5⟩ := hO3.sr (by omega)
        rw [plsL_len] at ev h3 h4
        obtain rfl := h3 (by omega)
        have hl := h4 (by omega)
        have k0 := h5 0 (plAt [f0, f1, t0, t1] 0) rfl 0 (.int .i64 f0) rfl
        have k1 := h5 0 (plAt [f0, f1, t0, t1] 0) rfl 1 (.int .i64 f1) rfl
        have k2 := h5 1 (plAt [f0, f1, t0, t1] 1) rfl 0 (.int .i64 t0) rfl
        have k3 := h5 1 (plAt [f0, f1, t0, t1] 1) rfl 1 (.int .i64 t1) rfl
        exact ⟨gg, off, cp, ev, fun V hV => ⟨keep_cell hV k0 hl, keep_cell hV k1 hl, keep_cell hV k2 hl, keep_cell hV k3 hl⟩⟩
      subst hv3
      have HP : Hid (∀ V, Below W3.heap.size W3 V → V.cell? ⟨g3, o3, none⟩ = some (.int .i64 f0) ∧ V.cell? ⟨g3, o3 + 1, none⟩ = some (.int .i64 f1) ∧ V.cell? ⟨g3, o3 + 2, none⟩ = some (.int .i64 t0) ∧ V.cell? ⟨g3, o3 + 3, none⟩ = some (.int .i64 t1)) := hcp
      have b23 := ab_trans b12 b3
      have HX3 : Hid (∀ V, Below W3.heap.size W3 V → Blk V w.heap.size #[.int .i64 k, .int .i64 f, .int .i64 t, .slice qn 6 cn, .slice qo no co, .slice qe nl ce] 36 ∧ Below w.heap.size w V ∧ Is V (.slice qn 6 cn) [ep, ln, f0, f1, t0, t1] ∧ ER EE V (.slice qe nl ce) l) := fun V hV => ⟨(HX.out V (ab_trans b23 hV)).1, (HX.out V (ab_trans b23 hV)).2, (HI.out V (HX.out V (ab_trans b23 hV)).2).1, (HI.out V (HX.out V (ab_trans b23 hV)).2).2⟩
      have hX3 := hX2.keep b3
      obtain ⟨qn', cn', gN, oN, eN, hN1, hN2, hN3, hN4, hN5⟩ := (HX3.out W3 (Below.refl _ _)).2.2.1
      injection eN with eN1 _ eN3
      subst eN1 eN3
      obtain rfl := hN3 (by show 0 < 6; omega)
      have hNl := hN4 (by show 0 < 6; omega)
      have HN : Hid (∀ V, Below W3.heap.size W3 V → V.cell? ⟨gN, oN, none⟩ = some (.int .i64 ep) ∧ V.cell? ⟨gN, oN + 1, none⟩ = some (.int .i64 ln)) := fun V hV => ⟨by have := keep_cell hV (hN5 0 ep rfl) hNl; rwa [Nat.add_zero] at this, keep_cell hV (hN5 1 ln rfl) hNl⟩
      have hwb := (HX3.out W3 (Below.refl _ _)).2.1.size
      have hblt := hX3.lt
      have hlo : w.heap.size ≤ A.heap.size := Nat.le_of_lt hXl
      clear z3 hIn hI5 hO3 hcp b3 b23 b12 hX2 hN5 hN1 hN2 hN3 hN4 HX HI hw2
      go_upto_region 4 with fail
      refine wp_region_held_drew (S := fun w' => Below W3.heap.size W3 w') (by kernel_rfl) (ab_drew (Below.refl _ _)) (fun hHeld => ?_)
      refine takeH (i := 0) (some 21) rfl rfl (by kernel_rfl) (by kernel_rfl) (by kernel_rfl) (fun _ _ _ h => h) (by rfl) (fun w hSw => by (try dsimp only at hSw); go_simp; try rfl) hHeld ?_
      go_frame
      refine takeH (i := 1) (some 22) rfl rfl (by kernel_rfl) (by kernel_rfl) (by kernel_rfl) (fun _ _ _ h => h) (by rfl) (fun w hSw => by (try dsimp only at hSw); (have q3 := (HX3.out _ hSw).1.at (i := 3) rfl; go_simp; try rfl)) hHeld ?_
      go_frame
      refine takeH (i := 2) (some 23) rfl rfl (by kernel_rfl) (by kernel_rfl) (by kernel_rfl) (fun _ _ _ h => h) (by rfl) (fun w hSw => by (try dsimp only at hSw); go_simp; try rfl) hHeld ?_
      go_frame
      refine takeH (i := 3) (some 24) rfl rfl (by kernel_rfl) (by kernel_rfl) (by kernel_rfl) (fun _ _ _ h => h) (by rfl) (fun w hSw => by (try dsimp only at hSw); (obtain ⟨q0, q1⟩ := HN.out _ hSw; go_simp; try rfl)) hHeld ?_
      go_frame
      refine takeH (i := 4) (some 25) rfl rfl (by kernel_rfl) (by kernel_rfl) (by kernel_rfl) (fun _ _ _ h => h) (by rfl) (fun w hSw => by (try dsimp only at hSw); go_simp; try rfl) hHeld ?_
      go_frame
      refine takeH (i := 5) (some 26) rfl rfl (by kernel_rfl) (by kernel_rfl) (by kernel_rfl) (fun _ _ _ h => h) (by rfl) (fun w hSw => by (try dsimp only at hSw); (have q3 := (HX3.out _ hSw).1.at (i := 3) rfl; go_simp; try rfl)) hHeld ?_
      go_frame
      refine takeH (i := 6) (some 27) rfl rfl (by kernel_rfl) (by kernel_rfl) (by kernel_rfl) (fun _ _ _ h => h) (by rfl) (fun w hSw => by (try dsimp only at hSw); go_simp; try rfl) hHeld ?_
      go_frame
      refine takeH (i := 7) (some 28) rfl rfl (by kernel_rfl) (by kernel_rfl) (by kernel_rfl) (fun _ _ _ h => h) (by rfl) (fun w hSw => by (try dsimp only at hSw); (obtain ⟨q0, q1⟩ := HN.out _ hSw; go_simp; try rfl)) hHeld ?_
      go_frame
      refine takeH (i := 8) (some 29) rfl rfl (by kernel_rfl) (by kernel_rfl) (by kernel_rfl) (fun _ _ _ h => h) (by rfl) (fun w hSw => by (try dsimp only at hSw); go_simp; try rfl) hHeld ?_
      go_frame
      refine takeH (i := 9) (some 30) rfl rfl (by kernel_rfl) (by kernel_rfl) (by kernel_rfl) (fun _ _ _ h => h) (by rfl) (fun w hSw => by (try dsimp only at hSw); go_simp; try rfl) hHeld ?_
      go_frame
      refine takeH (i := 10) (some 31) rfl rfl (by kernel_rfl) (by kernel_rfl) (by kernel_rfl) (fun _ _ _ h => h) (by rfl) (fun w hSw => by (try dsimp only at hSw); (obtain ⟨q0, q1, q2, q3⟩ := HP.out _ hSw; go_simp; try rfl)) hHeld ?_
      go_frame
      refine takeH (i := 11) (some 32) rfl rfl (by kernel_rfl) (by kernel_rfl) (by kernel_rfl) (fun _ _ _ h => h) (by rfl) (fun w hSw => by (try dsimp only at hSw); go_simp; try rfl) hHeld ?_
      go_frame
      refine takeH (i := 12) (some 33) rfl rfl (by kernel_rfl) (by kernel_rfl) (by kernel_rfl) (fun _ _ _ h => h) (by rfl) (fun w hSw => by (try dsimp only at hSw); go_simp; try rfl) hHeld ?_
      go_frame
      refine takeH (i := 13) (some 34) rfl rfl (by kernel_rfl) (by kernel_rfl) (by kernel_rfl) (fun _ _ _ h => h) (by rfl) (fun w hSw => by (try dsimp only at hSw); (obtain ⟨q0, q1, q2, q3⟩ := HP.out _ hSw; go_simp; try rfl)) hHeld ?_
      go_frame
      refine takeH (i := 14) (some 35) rfl rfl (by kernel_rfl) (by kernel_rfl) (by kernel_rfl) (fun _ _ _ h => h) (by rfl) (fun w hSw => by (try dsimp only at hSw); go_simp; try rfl) hHeld ?_
      go_frame
      refine takeH (i := 15) (some 36) rfl rfl (by kernel_rfl) (by kernel_rfl) (by kernel_rfl) (fun _ _ _ h => h) (by rfl) (fun w hSw => by (try dsimp only at hSw); (have q3 := (HX3.out _ hSw).1.at (i := 5) rfl; go_simp; try rfl)) hHeld ?_
      go_frame
      refine wpAnyH_ready (rs := [16, 18]) (by kernel_rfl) (by simp) (AllReadyH.cons rfl (fun K hK => ?_) (AllReadyH.cons rfl (fun K hK => ?_) AllReadyH.nil))
      · go_simp
        refine (gcopied_any _ l _ (HX3.out _ hHeld).2.2.2 (by omega)).mono ?_
        rintro e W4 ⟨v4, rfl, hO4, b4⟩
        show K _ _
        obtain ⟨q4, c4, e4⟩ := hO4.form
        rw [hnl] at e4
        subst e4
        have hs4 := hHeld.size
        have hO4' : EO EE 79 W4 W3.heap.size (.slice q4 nl c4) l := eo_lessA hO4 hs4
        refine hK.out _ _ (ab_trans hHeld b4) (fun hHeld => ?_)
        clear hK K
        refine takeH (i := 17) (some 38) rfl rfl (by kernel_rfl) (by kernel_rfl) (by kernel_rfl) (fun _ _ _ h => h) (by rfl) (fun w hSw => by (try dsimp only at hSw); exact bd_run rfl (built_bt ep ln f0 f1 t0 t1 q4 nl c4) (by simp only [List.map_toArray, List.map_cons, List.map_nil]; rfl) _) hHeld ?_
        go_frame
        refine wpAnyH_ready (rs := [18]) (by kernel_rfl) (by simp) (AllReadyH.cons rfl (fun K hK => ?_) AllReadyH.nil)
        rw [if_pos (by rfl)]
        refine alW17 (some 5) rfl rfl (btA zBt (.slice none 0 0)) (zero_bt _) fun W5 hX5 b5 => ?_
        have hs5 := hHeld.size
        have hX6 := hX5
        have hge6 := hs5
        have hO6 := hO4'.keep b5
        refine hK.out _ _ (ab_trans hHeld b5) (fun hHeld => ?_)
        clear hK K
        refine wpAnyH_ready (rs := [19]) (by kernel_rfl) (by simp) (AllReadyH.cons rfl (fun K hK => ?_) AllReadyH.nil)
        rw [if_pos (by rfl)]
        refine stW none rfl rfl hX6 rfl (vs := #[.int .i64 ep, .int .i64 ln, .int .i64 f0, .int .i64 f1, .int .i64 t0, .int .i64 t1, .slice q4 nl c4]) rfl (info_bt ⟨ep, ln, (f0, f1), (t0, t1), []⟩ q4 nl c4) rfl (bt_one ⟨ep, ln, (f0, f1), (t0, t1), []⟩ q4 nl c4) fun W7 hX7 C7 => ?_
        have hb7 : Below W3.heap.size W3 W7 := ab_chg hHeld C7 hge6
        have hO7 : EO EE 79 W7 W3.heap.size (.slice q4 nl c4) l := own_at hO6 (fun g hg => C7.other g (fun e => absurd ((eo_kindA hO6 hg).uniq (e ▸ hX6.kindR)) (by decide)))
        refine hK.out _ _ hb7 (fun hHeld => ?_)
        clear hK K
        refine wpAnyH_done (by kernel_rfl) ?_ _
        clear hHeld C7 hX6 hO6
        have hX37 := hX3.keep hb7
        have hw7 := (HX3.out W7 hb7).2.1
        have HChk := gcheck_any ⟨ep, ln, (f0, f1), (t0, t1), l⟩ (.slice q4 nl c4) W7 hO7.er
        unfold btA at HChk
        try dsimp only at HChk
        have v0 : W7.cell? ⟨W4.heap.size, 0, none⟩ = some (.int .i64 ep) := hX7.at rfl
        have v1 : W7.cell? ⟨W4.heap.size, 1, none⟩ = some (.int .i64 ln) := hX7.at rfl
        have v2 : W7.cell? ⟨W4.heap.size, 2, none⟩ = some (.int .i64 f0) := hX7.at rfl
        have v3' : W7.cell? ⟨W4.heap.size, 3, none⟩ = some (.int .i64 f1) := hX7.at rfl
        have v4 : W7.cell? ⟨W4.heap.size, 4, none⟩ = some (.int .i64 t0) := hX7.at rfl
        have v5 : W7.cell? ⟨W4.heap.size, 5, none⟩ = some (.int .i64 t1) := hX7.at rfl
        have v6 : W7.cell? ⟨W4.heap.size, 6, none⟩ = some (.slice q4 nl c4) := hX7.at rfl
        by_cases hgk : GkP ⟨ep, ln, (f0, f1), (t0, t1), l⟩
        · have HOk : Hid (GbOK ⟨k, f, t, [ep, ln, f0, f1, t0, t1], os, es⟩ l) := ⟨HK8.out, HGd.out, hgk⟩
          go_upto_region 6 with (go_at_call 7; refine HChk.mono ?_; rintro e W8 ⟨h8, b8⟩; obtain rfl : e = .returned .nilIface := by rcases h8 with ⟨_, h8⟩ | ⟨h8, _⟩ <;> first | exact h8 | exact absurd hgk h8)
          have hX8 := hX7.keep b8
          have hXr := hX37.keep b8
          have hO8 := hO7.keep b8
          have u0 : W8.cell? ⟨W4.heap.size, 0, none⟩ = some (.int .i64 ep) := hX8.at rfl
          have u1 : W8.cell? ⟨W4.heap.size, 1, none⟩ = some (.int .i64 ln) := hX8.at rfl
          have u2 : W8.cell? ⟨W4.heap.size, 2, none⟩ = some (.int .i64 f0) := hX8.at rfl
          have u3 : W8.cell? ⟨W4.heap.size, 3, none⟩ = some (.int .i64 f1) := hX8.at rfl
          have u4 : W8.cell? ⟨W4.heap.size, 4, none⟩ = some (.int .i64 t0) := hX8.at rfl
          have u5 : W8.cell? ⟨W4.heap.size, 5, none⟩ = some (.int .i64 t1) := hX8.at rfl
          have u6 : W8.cell? ⟨W4.heap.size, 6, none⟩ = some (.slice q4 nl c4) := hX8.at rfl
          have hw8 := ab_trans hw7 b8
          clear v0 v1 v2 v3' v4 v5 v6 hX7 hX37 hO7 HChk hgk hX8 b8
          go_wp2_with (refine st_blk rfl rfl hXr rfl (vs := #[.int .i64 ep, .int .i64 ln, .int .i64 f0, .int .i64 f1, .int .i64 t0, .int .i64 t1, .slice q4 nl c4]) rfl (info_bt ⟨ep, ln, (f0, f1), (t0, t1), []⟩ q4 nl c4) rfl (bt_one ⟨ep, ln, (f0, f1), (t0, t1), []⟩ q4 nl c4) ?_; intro W9 hX9 C9)
          have hO9 : EO EE 79 W9 w.heap.size (.slice q4 nl c4) l := own_at (eo_lessA hO8 hwb) (fun g hg => C9.other g (fun e => absurd ((eo_kindA hO8 hg).uniq (e ▸ hXr.kindR)) (by decide)))
          exact bodyPost_ret (results_c2 rfl _ _ _ 33 _ (0, 0) _ .nilIface rfl rfl hX9 Tryz.underlying33 rfl (info_bt ⟨ep, ln, (f0, f1), (t0, t1), []⟩ q4 nl c4)) rfl ⟨.inl ⟨HOk.out, _, rfl, hO9⟩, ab_chg hw8 C9 hlo⟩
        · have HNo : Hid (¬ GbOK ⟨k, f, t, [ep, ln, f0, f1, t0, t1], os, es⟩ l) := fun h => hgk h.2.2
          go_upto_region 6 with (go_at_call 7; refine HChk.mono ?_; rintro e W8 ⟨h8, b8⟩; obtain rfl : e = .returned (Err 2) := by rcases h8 with ⟨h8, _⟩ | ⟨_, h8⟩ <;> first | exact h8 | exact absurd h8 hgk)
          have hXr := hX37.keep b8
          have hw8 := ab_trans hw7 b8
          have Ne1 := neNilErr
          clear v0 v1 v2 v3' v4 v5 v6 hX7 hX37 hO7 HChk hgk b8
          go_wp2_with (refine st_blk rfl rfl hXr rfl rfl (info_bt zBt none 0 0) rfl (bt_one zBt none 0 0) ?_; intro W9 hX9 C9)
          exact bodyPost_ret (results_c2 rfl _ _ _ 33 _ (0, 0) _ (Err 2) rfl rfl hX9 Tryz.underlying33 rfl (info_bt zBt none 0 0)) rfl ⟨gb_no HNo.out, ab_chg hw8 C9 hlo⟩
      · rw [if_pos (by rfl)]
        refine alW17 (some 5) rfl rfl (btA zBt (.slice none 0 0)) (zero_bt _) fun W5 hX5 b5 => ?_
        have hs5 := hHeld.size
        have hge6 := hs5
        refine hK.out _ _ (ab_trans hHeld b5) (fun hHeld => ?_)
        clear hK K
        refine wpAnyH_ready (rs := [16]) (by kernel_rfl) (by simp) (AllReadyH.cons rfl (fun K hK => ?_) AllReadyH.nil)
        go_simp
        refine (gcopied_any _ l _ (HX3.out _ hHeld).2.2.2 (by omega)).mono ?_
        rintro e W4 ⟨v4, rfl, hO4, b4⟩
        show K _ _
        obtain ⟨q4, c4, e4⟩ := hO4.form
        rw [hnl] at e4
        subst e4
        have hs4 := hHeld.size
        have hX6 := hX5.keep b4
        have hO6 : EO EE 79 W4 W3.heap.size (.slice q4 nl c4) l := eo_lessA hO4 hs4
        refine hK.out _ _ (ab_trans hHeld b4) (fun hHeld => ?_)
        clear hK K
        refine takeH (i := 17) (some 38) rfl rfl (by kernel_rfl) (by kernel_rfl) (by kernel_rfl) (fun _ _ _ h => h) (by rfl) (fun w hSw => by (try dsimp only at hSw); exact bd_run rfl (built_bt ep ln f0 f1 t0 t1 q4 nl c4) (by simp only [List.map_toArray, List.map_cons, List.map_nil]; rfl) _) hHeld ?_
        go_frame
        refine wpAnyH_ready (rs := [19]) (by kernel_rfl) (by simp) (AllReadyH.cons rfl (fun K hK => ?_) AllReadyH.nil)
        rw [if_pos (by rfl)]
        refine stW none rfl rfl hX6 rfl (vs := #[.int .i64 ep, .int .i64 ln, .int .i64 f0, .int .i64 f1, .int .i64 t0, .int .i64 t1, .slice q4 nl c4]) rfl (info_bt ⟨ep, ln, (f0, f1), (t0, t1), []⟩ q4 nl c4) rfl (bt_one ⟨ep, ln, (f0, f1), (t0, t1), []⟩ q4 nl c4) fun W7 hX7 C7 => ?_
        have hb7 : Below W3.heap.size W3 W7 := ab_chg hHeld C7 hge6
        have hO7 : EO EE 79 W7 W3.heap.size (.slice q4 nl c4) l := own_at hO6 (fun g hg => C7.other g (fun e => absurd ((eo_kindA hO6 hg).uniq (e ▸ hX6.kindR)) (by decide)))
        refine hK.out _ _ hb7 (fun hHeld => ?_)
        clear hK K
        refine wpAnyH_done (by kernel_rfl) ?_ _
        clear hHeld C7 hX6 hO6
        have hX37 := hX3.keep hb7
        have hw7 := (HX3.out W7 hb7).2.1
        have HChk := gcheck_any ⟨ep, ln, (f0, f1), (t0, t1), l⟩ (.slice q4 nl c4) W7 hO7.er
        unfold btA at HChk
        try dsimp only at HChk
        have v0 : W7.cell? ⟨W3.heap.size, 0, none⟩ = some (.int .i64 ep) := hX7.at rfl
        have v1 : W7.cell? ⟨W3.heap.size, 1, none⟩ = some (.int .i64 ln) := hX7.at rfl
        have v2 : W7.cell? ⟨W3.heap.size, 2, none⟩ = some (.int .i64 f0) := hX7.at rfl
        have v3' : W7.cell? ⟨W3.heap.size, 3, none⟩ = some (.int .i64 f1) := hX7.at rfl
        have v4 : W7.cell? ⟨W3.heap.size, 4, none⟩ = some (.int .i64 t0) := hX7.at rfl
        have v5 : W7.cell? ⟨W3.heap.size, 5, none⟩ = some (.int .i64 t1) := hX7.at rfl
        have v6 : W7.cell? ⟨W3.heap.size, 6, none⟩ = some (.slice q4 nl c4) := hX7.at rfl
        by_cases hgk : GkP ⟨ep, ln, (f0, f1), (t0, t1), l⟩
        · have HOk : Hid (GbOK ⟨k, f, t, [ep, ln, f0, f1, t0, t1], os, es⟩ l) := ⟨HK8.out, HGd.out, hgk⟩
          go_upto_region 6 with (go_at_call 7; refine HChk.mono ?_; rintro e W8 ⟨h8, b8⟩; obtain rfl : e = .returned .nilIface := by rcases h8 with ⟨_, h8⟩ | ⟨h8, _⟩ <;> first | exact h8 | exact absurd hgk h8)
          have hX8 := hX7.keep b8
          have hXr := hX37.keep b8
          have hO8 := hO7.keep b8
          have u0 : W8.cell? ⟨W3.heap.size, 0, none⟩ = some (.int .i64 ep) := hX8.at rfl
          have u1 : W8.cell? ⟨W3.heap.size, 1, none⟩ = some (.int .i64 ln) := hX8.at rfl
          have u2 : W8.cell? ⟨W3.heap.size, 2, none⟩ = some (.int .i64 f0) := hX8.at rfl
          have u3 : W8.cell? ⟨W3.heap.size, 3, none⟩ = some (.int .i64 f1) := hX8.at rfl
          have u4 : W8.cell? ⟨W3.heap.size, 4, none⟩ = some (.int .i64 t0) := hX8.at rfl
          have u5 : W8.cell? ⟨W3.heap.size, 5, none⟩ = some (.int .i64 t1) := hX8.at rfl
          have u6 : W8.cell? ⟨W3.heap.size, 6, none⟩ = some (.slice q4 nl c4) := hX8.at rfl
          have hw8 := ab_trans hw7 b8
          clear v0 v1 v2 v3' v4 v5 v6 hX7 hX37 hO7 HChk hgk hX8 b8
          go_wp2_with (refine st_blk rfl rfl hXr rfl (vs := #[.int .i64 ep, .int .i64 ln, .int .i64 f0, .int .i64 f1, .int .i64 t0, .int .i64 t1, .slice q4 nl c4]) rfl (info_bt ⟨ep, ln, (f0, f1), (t0, t1), []⟩ q4 nl c4) rfl (bt_one ⟨ep, ln, (f0, f1), (t0, t1), []⟩ q4 nl c4) ?_; intro W9 hX9 C9)
          have hO9 : EO EE 79 W9 w.heap.size (.slice q4 nl c4) l := own_at (eo_lessA hO8 hwb) (fun g hg => C9.other g (fun e => absurd ((eo_kindA hO8 hg).uniq (e ▸ hXr.kindR)) (by decide)))
          exact bodyPost_ret (results_c2 rfl _ _ _ 33 _ (0, 0) _ .nilIface rfl rfl hX9 Tryz.underlying33 rfl (info_bt ⟨ep, ln, (f0, f1), (t0, t1), []⟩ q4 nl c4)) rfl ⟨.inl ⟨HOk.out, _, rfl, hO9⟩, ab_chg hw8 C9 hlo⟩
        · have HNo : Hid (¬ GbOK ⟨k, f, t, [ep, ln, f0, f1, t0, t1], os, es⟩ l) := fun h => hgk h.2.2
          go_upto_region 6 with (go_at_call 7; refine HChk.mono ?_; rintro e W8 ⟨h8, b8⟩; obtain rfl : e = .returned (Err 2) := by rcases h8 with ⟨h8, _⟩ | ⟨_, h8⟩ <;> first | exact h8 | exact absurd h8 hgk)
          have hXr := hX37.keep b8
          have hw8 := ab_trans hw7 b8
          have Ne1 := neNilErr
          clear v0 v1 v2 v3' v4 v5 v6 hX7 hX37 hO7 HChk hgk b8
          go_wp2_with (refine st_blk rfl rfl hXr rfl rfl (info_bt zBt none 0 0) rfl (bt_one zBt none 0 0) ?_; intro W9 hX9 C9)
          exact bodyPost_ret (results_c2 rfl _ _ _ 33 _ (0, 0) _ (Err 2) rfl rfl hX9 Tryz.underlying33 rfl (info_bt zBt none 0 0)) rfl ⟨gb_no HNo.out, ab_chg hw8 C9 hlo⟩
    · have HCk2 : ∀ V, Below w.heap.size w V → Calls Tryz.prog 30 #[.agg #[.int .i64 k, .int .i64 f, .int .i64 t, .slice qn nn cn, .slice qo no co, .slice qe nl ce]] V fun e w' => e = .returned (Err 2) ∧ Below V.heap.size V w' := fun V hV => (HCk V hV).mono (fun e w' ⟨h1, h2⟩ => ⟨h1.2 hg, h2⟩)
      have HNo : Hid (¬ GbOK ⟨k, f, t, ns, os, es⟩ l) := fun h => hg h.2.1
      clear HCk hg hk
      go_enter Tryz.func14, Tryz.ntmps14
      go_upto_region 1 with (refine al_blk rfl rfl (btA zBt (.slice none 0 0)) (zero_bt _) ?_; intro W1 e1 hX1 b1; clear e1)
      obtain ⟨hXn, hwn⟩ := HX.out W1 b1
      have y0 : W1.cell? ⟨w.heap.size, 0, none⟩ = some (.int .i64 k) := hXn.at rfl
      have y1 : W1.cell? ⟨w.heap.size, 1, none⟩ = some (.int .i64 f) := hXn.at rfl
      have y2 : W1.cell? ⟨w.heap.size, 2, none⟩ = some (.int .i64 t) := hXn.at rfl
      have y3 : W1.cell? ⟨w.heap.size, 3, none⟩ = some (.slice qn nn cn) := hXn.at rfl
      have y4 : W1.cell? ⟨w.heap.size, 4, none⟩ = some (.slice qo no co) := hXn.at rfl
      have y5 : W1.cell? ⟨w.heap.size, 5, none⟩ = some (.slice qe nl ce) := hXn.at rfl
      clear x0 x1 x2 x3 x4 x5 hE
      go_wp2_with (first
        | (go_at_call 30; refine (HCk2 _ hwn).mono ?_; rintro e W2 ⟨rfl, b2⟩; have hX2 := hX1.keep b2; have hw2 := ab_trans hwn b2)
        | (refine st_blk rfl rfl hX2 rfl rfl (info_bt zBt none 0 0) rfl (bt_one zBt none 0 0) ?_; intro W3 hX3 C3))
      exact bodyPost_ret (results_c2 rfl _ _ _ 33 _ (0, 0) _ (Err 2) rfl rfl hX3 Tryz.underlying33 rfl (info_bt zBt none 0 0)) rfl ⟨gb_no HNo.out, ab_chg hw2 C3 (by omega)⟩
  · have hkb : (k != 8) = true := by simp [hk]
    have HNo : Hid (¬ GbOK ⟨k, f, t, ns, os, es⟩ l) := fun h => hk h.1
    clear HCk hk
    go_enter Tryz.func14, Tryz.ntmps14
    go_upto_region 1 with (refine al_blk rfl rfl (btA zBt (.slice none 0 0)) (zero_bt _) ?_; intro W1 e1 hX1 b1; clear e1)
    obtain ⟨hXn, hwn⟩ := HX.out W1 b1
    have y0 : W1.cell? ⟨w.heap.size, 0, none⟩ = some (.int .i64 k) := hXn.at rfl
    clear x0 x1 x2 x3 x4 x5 hE
    go_wp2_with (refine st_blk rfl rfl hX1 rfl rfl (info_bt zBt none 0 0) rfl (bt_one zBt none 0 0) ?_; intro W3 hX3 C3)
    exact bodyPost_ret (results_c2 rfl _ _ _ 33 _ (0, 0) _ (Err 2) rfl rfl hX3 Tryz.underlying33 rfl (info_bt zBt none 0 0)) rfl ⟨gb_no HNo.out, ab_chg hwn C3 (by omega)⟩
end Go.Proofs.YtclfdagenaaalaaGreat
namespace Go.Proofs.YtclfdagenaaalaaGreat
open Go.RowKit Go.Maps
set_option linter.unusedVariables false
set_option maxRecDepth 100000

theorem eqA_refl17 (x : Nat → Int) : eqA 76 x x = true := (eqA_iff 76 x x).2 fun _ _ => rfl
set_option maxHeartbeats 2000000 in
theorem rsame17_yes (b : Btc) (v u : Value) (w : World) (hv : ER EE w v b.en) (hu : ER EE w u b.en) :
    Calls Tryz.prog 13 #[.agg (btA b v), .agg (btA b u)] w fun e w' => e = .returned (.bool true) ∧ Below w.heap.size w w' := by
  obtain ⟨q, cap, ev⟩ := hv.form
  obtain ⟨q2, cap2, eu⟩ := hu.form
  subst ev eu
  obtain ⟨ep, ln, ⟨f0, f1⟩, ⟨t0, t1⟩, L⟩ := b
  unfold btA
  try dsimp only at *
  have HV : Hid (ER EE w (.slice q L.length cap) L ∧ ER EE w (.slice q2 L.length cap2) L) := ⟨hv, hu⟩
  have hn63 : (L.length : Int) ≤ 9223372036854775807 := by
    obtain ⟨q', c', g', o', e', h2, h3, -⟩ := hv
    omega
  clear hv hu
  generalize hn : L.length = n at *
  obtain ⟨A, hE, hX, hw⟩ := blk1 w #[.int .i64 ep, .int .i64 ln, .int .i64 f0, .int .i64 f1, .int .i64 t0, .int .i64 t1, .slice q n cap] 33
  obtain ⟨A2, hE2, hX2, hw2⟩ := blk1 A #[.int .i64 ep, .int .i64 ln, .int .i64 f0, .int .i64 f1, .int .i64 t0, .int .i64 t1, .slice q2 n cap2] 33
  have HX : Hid (∀ V, Below A2.heap.size A2 V → V.cell? ⟨w.heap.size, 6, none⟩ = some (.slice q n cap) ∧ V.cell? ⟨A.heap.size, 6, none⟩ = some (.slice q2 n cap2) ∧ Below w.heap.size w V) := fun V hV => ⟨((hX.keep hw2).keep hV).at rfl, (hX2.keep hV).at rfl, ab_trans (ab_trans hw hw2) hV⟩
  have hXa := hX.keep hw2
  have x0 : A2.cell? ⟨w.heap.size, 0, none⟩ = some (.int .i64 ep) := hXa.at rfl
  have x1 : A2.cell? ⟨w.heap.size, 1, none⟩ = some (.int .i64 ln) := hXa.at rfl
  have x2 : A2.cell? ⟨w.heap.size, 2, none⟩ = some (.int .i64 f0) := hXa.at rfl
  have x3 : A2.cell? ⟨w.heap.size, 3, none⟩ = some (.int .i64 f1) := hXa.at rfl
  have x4 : A2.cell? ⟨w.heap.size, 4, none⟩ = some (.int .i64 t0) := hXa.at rfl
  have x5 : A2.cell? ⟨w.heap.size, 5, none⟩ = some (.int .i64 t1) := hXa.at rfl
  have x6 : A2.cell? ⟨w.heap.size, 6, none⟩ = some (.slice q n cap) := hXa.at rfl
  have y0 : A2.cell? ⟨A.heap.size, 0, none⟩ = some (.int .i64 ep) := hX2.at rfl
  have y1 : A2.cell? ⟨A.heap.size, 1, none⟩ = some (.int .i64 ln) := hX2.at rfl
  have y2 : A2.cell? ⟨A.heap.size, 2, none⟩ = some (.int .i64 f0) := hX2.at rfl
  have y3 : A2.cell? ⟨A.heap.size, 3, none⟩ = some (.int .i64 f1) := hX2.at rfl
  have y4 : A2.cell? ⟨A.heap.size, 4, none⟩ = some (.int .i64 t0) := hX2.at rfl
  have y5 : A2.cell? ⟨A.heap.size, 5, none⟩ = some (.int .i64 t1) := hX2.at rfl
  have y6 : A2.cell? ⟨A.heap.size, 6, none⟩ = some (.slice q2 n cap2) := hX2.at rfl
  have l1 : w.heap.size < A2.heap.size := hXa.lt
  have l2 : A.heap.size < A2.heap.size := hX2.lt
  have e0 : (ep != ep) = false := by simp
  have e1 : (ln != ln) = false := by simp
  have e2 : (f0 == f0) = true := by simp
  have e3 : (f1 == f1) = true := by simp
  have e4 : (t0 == t0) = true := by simp
  have e5 : (t1 == t1) = true := by simp
  have e6 : ((n : Int) != (n : Int)) = false := by simp
  clear hX hX2 hXa hw hw2
  generalize hb1 : A.heap.size = b1 at *
  go_enter Tryz.func13, Tryz.ntmps13
  go_upto_region 3 with fail
  clear x0 x1 x2 x3 x4 x5 x6 y0 y1 y2 y3 y4 y5 y6 e0 e1 e2 e3 e4 e5 e6 hE hE2
  obtain ⟨bx, hbx⟩ : ∃ bx, w.heap.size = bx := ⟨_, rfl⟩
  have HX2 : Hid (∀ V, Below A2.heap.size A2 V → V.cell? ⟨bx, 6, none⟩ = some (.slice q n cap) ∧ V.cell? ⟨b1, 6, none⟩ = some (.slice q2 n cap2) ∧ Below w.heap.size w V) := fun V hV => by rw [← hbx]; exact HX.out V hV
  have l1' : bx < A2.heap.size := by omega
  rw [hbx]
  clear hbx HX l1
  go_wp2_with fail
  go_loopw [5] (fun z wr => ∃ k : Nat, k ≤ n ∧ z = .int .i64 (k : Int) ∧ Below A2.heap.size A2 wr) (fun z _ => n - (intOf z).toNat)
  case atStart => exact ⟨0, by omega, rfl, Below.refl _ _⟩
  case round =>
    obtain ⟨k, hk, rfl, hb⟩ := hrel
    obtain ⟨z1, z2, hwb⟩ := HX2.out wr hb
    by_cases ck : k = n
    · subst ck
      go_wp2_with fail
      go_ret
      exact ⟨rfl, hwb⟩
    · obtain ⟨x, hx⟩ : ∃ x, L[k]? = some x := ⟨L[k]'(by omega), List.getElem?_eq_getElem (by omega)⟩
      have hki : (k : Int) < (n : Int) := by omega
      have HKN : Hid (k < n) := by show _ < _; omega
      obtain ⟨g1, o1, rfl, hg1, hr1⟩ := er_range HV.out.1 (by omega)
      obtain ⟨g2, o2, rfl, hg2, hr2⟩ := er_range HV.out.2 (by omega)
      have R1 : Hid (∀ V, Below wr.heap.size wr V → V.rangeAt g1 (o1 + k * 76) (AG 76 ek (entF x)).toList) := fun V hV => by
        have := range_keep (hr1 k x hx) hg1 (ab_trans hwb hV)
        rw [EE_AG] at this
        exact this
      have R2 : Hid (∀ V, Below wr.heap.size wr V → V.rangeAt g2 (o2 + k * 76) (AG 76 ek (entF x)).toList) := fun V hV => by
        have := range_keep (hr2 k x hx) hg2 (ab_trans hwb hV)
        rw [EE_AG] at this
        exact this
      have w1 := cls_cell z1 (Nat.lt_of_lt_of_le l1' hb.size)
      have w2 := cls_cell z2 (Nat.lt_of_lt_of_le l2 hb.size)
      clear hr1 hr2 hx
      go_upto_region 6 with fail
      clear z1 z2
      refine wp_region_below (by kernel_rfl) (by kernel_rfl) ?_
      have HZ := cls_some wr
      iterate 4 (go_big_quiet_step (fail))
      refine quiet_val rfl _ (fun w' hw' => by obtain ⟨z, hz⟩ := hw'; exact ld_ents rfl rfl (hz ▸ R1.out _ z.prop)) ?_
      simp only [Act.put, List.setIfInBounds_toArray, List.set_cons_succ, List.set_cons_zero]
      iterate 4 (go_big_quiet_step (fail))
      refine quiet_val rfl _ (fun w' hw' => by obtain ⟨z, hz⟩ := hw'; exact ld_ents rfl rfl (hz ▸ R2.out _ z.prop)) ?_
      simp only [Act.put, List.setIfInBounds_toArray, List.set_cons_succ, List.set_cons_zero]
      refine quiet_val rfl _ (fun w' _ => neqo_ents (c := entF x) (d := entF x) rfl rfl rfl w') ?_
      simp only [Act.put, List.setIfInBounds_toArray, List.set_cons_succ, List.set_cons_zero]
      rw [eqA_refl17]
      refine wpQuiet_nil ?_
      rintro W7 ⟨⟨W7', b7⟩, rfl⟩
      try dsimp only
      clear w1 w2 HZ
      have hb7 := ab_trans hb b7
      go_wp2_with fail
      go_roundw
      case rel => exact ⟨k + 1, by have := HKN.out; omega, by go_num, hb7⟩
      case measure => have := HKN.out; simp [intOf]; omega
/-- Entries that came in. -/
def entOf (c : Nat → Int) : Ent := ((c 0, c 1), fun i => c (2 + i))
theorem entOf_AG (c : Nat → Int) : (entA (entOf c)).toList = (AG 76 ek c).toList := by
  rw [EE_AG]
  unfold AG
  congr 1
theorem er_ents {W : World} {v : Value} {l : List (Nat → Int)} (h : SR 76 ek W v l) : ER EE W v (l.map entOf) := by
  obtain ⟨q, cap, g, off, rfl, h2, h3, h4, h5, h6⟩ := h
  refine ⟨q, cap, g, off, by rw [List.length_map], by rw [List.length_map]; exact h2, h3, fun h => by rw [List.length_map] at h; exact ⟨h4 h, h5 h⟩, fun j u hu => ?_⟩
  have hj := (List.getElem?_eq_some_iff.1 hu).1
  rw [EE.fl_len, List.length_map] at hj
  have hj : j < l.length * 76 := hj
  have hjd : j / 76 < l.length := Nat.div_lt_of_lt_mul (by rw [Nat.mul_comm]; exact hj)
  have hm2 : j % 76 < 76 := Nat.mod_lt _ (by omega)
  have hx := List.getElem?_eq_getElem hjd
  have hv : (AG 76 ek l[j / 76]).toList[j % 76]? = some u := by
    rw [← entOf_AG]
    have hl2 : j % 76 < (entA (entOf l[j / 76])).toList.length := by rw [Array.length_toList, entA_size]; exact hm2
    have hy := EE.fl_at (l.map entOf) (j / 76) (entOf l[j / 76]) (by rw [List.getElem?_map, hx]; rfl) (j % 76) _ (List.getElem?_eq_getElem hl2)
    rw [show j / 76 * EE.k + j % 76 = j by show j / 76 * 76 + j % 76 = j; omega, hu] at hy
    rw [List.getElem?_eq_getElem hl2]
    exact hy.symm
  have := h6 (j / 76) _ hx (j % 76) u hv
  rw [show off + j = off + j / 76 * 76 + j % 76 by omega]
  exact this
end Go.Proofs.YtclfdagenaaalaaGreat
namespace Go.Proofs.YtclfdagenaaalaaGreat
open Go.RowKit Go.Maps
set_option linter.unusedVariables false
set_option maxRecDepth 100000

set_option maxHeartbeats 2000000 in
set_option maxRecDepth 100000 in
theorem gequalE_sr (v1 v2 : Value) (l m : List (Nat → Int)) (w : World) (h1 : SR 76 ek w v1 l) (h2 : SR 76 ek w v2 m) :
    Calls Tryz.prog 29 #[v1, v2] w fun r w' => BIff r (EqL 76 l m) ∧ Below w.heap.size w w' := by
  obtain ⟨q1, c1, g1, o1, rfl, hc1, hm1, hp1, hg1, hr1⟩ := h1
  obtain ⟨q2, c2, g2, o2, rfl, hc2, hm2, hp2, hg2, hr2⟩ := h2
  by_cases hl : l.length = m.length
  · generalize hn : l.length = n at *
    generalize hn2 : m.length = n2 at *
    subst hl
    have e0 : ((n : Int) != (n : Int)) = false := by simp
    go_enter Tryz.func29, Tryz.ntmps29
    go_wp2_with fail
    go_loopw [13] (fun i wr => ∃ k : Nat, k ≤ n ∧ i = .int .i64 (k : Int) ∧ EqL 76 (l.take k) (m.take k) ∧ Below w.heap.size w wr) (fun i _ => n - (intOf i).toNat)
    case atStart => exact ⟨0, by omega, rfl, by simpa using EqL.refl _ _, Below.refl _ _⟩
    case round =>
      obtain ⟨k, hk, rfl, ht, hb⟩ := hrel
      have HT : Hid (EqL 76 (l.take k) (m.take k)) := ht
      clear ht
      by_cases c : k = n
      · subst c
        have HE : Hid (BIff (.returned (.bool true)) (EqL 76 l m)) := ⟨true, rfl, by
          have := HT.out
          rw [List.take_of_length_le (by omega), List.take_of_length_le (by omega)] at this
          simp [this]⟩
        go_wp2_with fail
        go_ret
        exact ⟨HE.out, hb⟩
      · obtain ⟨x, hx⟩ : ∃ x, l[k]? = some x := ⟨l[k], List.getElem?_eq_getElem (by omega)⟩
        obtain ⟨y, hy⟩ : ∃ y, m[k]? = some y := ⟨m[k], List.getElem?_eq_getElem (by omega)⟩
        obtain rfl := hp1 (by omega)
        obtain rfl := hp2 (by omega)
        have gw1 : g1 < w.heap.size := hg1 (by omega)
        have gw2 : g2 < w.heap.size := hg2 (by omega)
        have R1 : Hid (∀ w', Below wr.heap.size wr w' → w'.rangeAt g1 (o1 + k * 76) (AG 76 ek x).toList) := fun w' hb' => range_keep (hr1 k x hx) gw1 (ab_trans hb hb')
        have R2 : Hid (∀ w', Below wr.heap.size wr w' → w'.rangeAt g2 (o2 + k * 76) (AG 76 ek y).toList) := fun w' hb' => range_keep (hr2 k y hy) gw2 (ab_trans hb hb')
        have hki : (k : Int) < (n : Int) := by omega
        have hkn : k < n := by omega
        have HN : Hid ((∀ i, i < 76 → x i = y i) → EqL 76 (l.take (k + 1)) (m.take (k + 1))) := fun e => eqL_next HT.out hx hy e
        have HE : Hid ((¬ ∀ i, i < 76 → x i = y i) → BIff (.returned (.bool false)) (EqL 76 l m)) := fun e => ⟨false, rfl, ⟨fun h => by simp at h, fun h => absurd (h.2 k x y hx hy) e⟩⟩
        clear hr1 hr2 hp1 hp2 hg1 hg2 hx hy hn hn2 gw1 gw2
        go_upto_region 6 with fail
        refine wp_region_below (by kernel_rfl) (by kernel_rfl) ?_
        have HZ := cls_some wr
        go_big_quiet_step (fail)
        go_big_quiet_step (fail)
        go_big_quiet_step (fail)
        refine quiet_val rfl _ (fun w' hw' => by obtain ⟨z, hz⟩ := hw'; exact ld_ents rfl rfl (hz ▸ R1.out _ z.prop)) ?_
        simp only [Act.put, List.setIfInBounds_toArray, List.set_cons_succ, List.set_cons_zero]
        go_big_quiet_step (fail)
        go_big_quiet_step (fail)
        go_big_quiet_step (fail)
        refine quiet_val rfl _ (fun w' hw' => by obtain ⟨z, hz⟩ := hw'; exact ld_ents rfl rfl (hz ▸ R2.out _ z.prop)) ?_
        simp only [Act.put, List.setIfInBounds_toArray, List.set_cons_succ, List.set_cons_zero]
        refine quiet_val rfl _ (fun w' _ => neqo_ents rfl rfl rfl w') ?_
        simp only [Act.put, List.setIfInBounds_toArray, List.set_cons_succ, List.set_cons_zero]
        refine wpQuiet_nil ?_
        rintro w7 ⟨⟨W7, b7⟩, e7⟩
        dsimp only at e7
        subst e7
        have hb7 := ab_trans hb b7
        cases he : eqA 76 x y with
        | true =>
          have HN' := HN.out ((eqA_iff _ _ _).1 he)
          have HN2 : Hid (EqL 76 (l.take (k + 1)) (m.take (k + 1))) := HN'
          clear HN' HN HE
          go_wp2_with fail
          exact ⟨⟨k + 1, by omega, rfl, HN2.out, hb7⟩, by simp only [intOf]; omega⟩
        | false =>
          have HE2 : Hid (BIff (.returned (.bool false)) (EqL 76 l m)) := HE.out (fun h => by rw [(eqA_iff _ _ _).2 h] at he; cases he)
          clear HN HE
          go_wp2_with fail
          go_ret
          exact ⟨HE2.out, hb7⟩
  · have HE : Hid (BIff (.returned (.bool false)) (EqL 76 l m)) := ⟨false, rfl, ⟨fun h => by simp at h, fun h => absurd h.1 hl⟩⟩
    have e0 : ((l.length : Int) != (m.length : Int)) = true := by simp; omega
    clear hl hr1 hr2 hp1 hp2 hg1 hg2
    generalize l.length = n at *
    generalize m.length = n2 at *
    go_enter Tryz.func29, Tryz.ntmps29
    go_wp2_with fail
    go_ret
    exact ⟨HE.out, Below.refl _ _⟩
end Go.Proofs.YtclfdagenaaalaaGreat
namespace Go.Proofs.YtclfdagenaaalaaGreat
open Go.RowKit Go.Maps
set_option linter.unusedVariables false
set_option maxRecDepth 100000

/-- Two batches are the same. -/
structure SmB (a b : Btc) : Prop where
  ep : a.ep = b.ep
  ln : a.ln = b.ln
  f0 : a.fr.1 = b.fr.1
  f1 : a.fr.2 = b.fr.2
  t0 : a.tt.1 = b.tt.1
  t1 : a.tt.2 = b.tt.2
  en : EqL 76 (a.en.map entF) (b.en.map entF)
theorem bi_no {P : Prop} (h : ¬ P) : BIff (.returned (.bool false)) P := ⟨false, rfl, ⟨fun e => (by cases e), fun e => absurd e h⟩⟩
set_option maxHeartbeats 2000000 in
theorem gsame17_any (a b : Btc) (v u : Value) (w : World) (hv : ER EE w v a.en) (hu : ER EE w u b.en) :
    Calls Tryz.prog 12 #[.agg (btA a v), .agg (btA b u)] w fun e w' => BIff e (SmB a b) ∧ Below w.heap.size w w' := by
  have HEq := fun (V : World) (hV : Below w.heap.size w V) => gequalE_sr v u _ _ V ((er_sr76 hv).keep hV) ((er_sr76 hu).keep hV)
  obtain ⟨q, cap, ev⟩ := hv.form
  obtain ⟨q2, cap2, eu⟩ := hu.form
  subst ev eu
  clear hv hu
  obtain ⟨a1, a2, ⟨a3, a4⟩, ⟨a5, a6⟩, L⟩ := a
  obtain ⟨b1, b2, ⟨b3, b4⟩, ⟨b5, b6⟩, M⟩ := b
  unfold btA
  try dsimp only at *
  have HSm : Hid (SmB ⟨a1, a2, (a3, a4), (a5, a6), L⟩ ⟨b1, b2, (b3, b4), (b5, b6), M⟩ ↔ a1 = b1 ∧ a2 = b2 ∧ a3 = b3 ∧ a4 = b4 ∧ a5 = b5 ∧ a6 = b6 ∧ EqL 76 (L.map entF) (M.map entF)) := ⟨fun h => ⟨h.ep, h.ln, h.f0, h.f1, h.t0, h.t1, h.en⟩, fun ⟨h1, h2, h3, h4, h5, h6, h7⟩ => ⟨h1, h2, h3, h4, h5, h6, h7⟩⟩
  generalize SmB ⟨a1, a2, (a3, a4), (a5, a6), L⟩ ⟨b1, b2, (b3, b4), (b5, b6), M⟩ = PP at *
  have HQq : Hid (EqL 76 (L.map entF) (M.map entF) = EqL 76 (L.map entF) (M.map entF)) := rfl
  generalize EqL 76 (L.map entF) (M.map entF) = QQ at *
  generalize L.length = n at *
  generalize M.length = m at *
  obtain ⟨A, hE, hX, hw⟩ := blk1 w #[.int .i64 a1, .int .i64 a2, .int .i64 a3, .int .i64 a4, .int .i64 a5, .int .i64 a6, .slice q n cap] 33
  obtain ⟨A2, hE2, hX2, hw2⟩ := blk1 A #[.int .i64 b1, .int .i64 b2, .int .i64 b3, .int .i64 b4, .int .i64 b5, .int .i64 b6, .slice q2 m cap2] 33
  have hXa := hX.keep hw2
  have x0 : A2.cell? ⟨w.heap.size, 0, none⟩ = some (.int .i64 a1) := hXa.at rfl
  have y0 : A2.cell? ⟨A.heap.size, 0, none⟩ = some (.int .i64 b1) := hX2.at rfl
  have x1 : A2.cell? ⟨w.heap.size, 1, none⟩ = some (.int .i64 a2) := hXa.at rfl
  have y1 : A2.cell? ⟨A.heap.size, 1, none⟩ = some (.int .i64 b2) := hX2.at rfl
  have x2 : A2.cell? ⟨w.heap.size, 2, none⟩ = some (.int .i64 a3) := hXa.at rfl
  have y2 : A2.cell? ⟨A.heap.size, 2, none⟩ = some (.int .i64 b3) := hX2.at rfl
  have x3 : A2.cell? ⟨w.heap.size, 3, none⟩ = some (.int .i64 a4) := hXa.at rfl
  have y3 : A2.cell? ⟨A.heap.size, 3, none⟩ = some (.int .i64 b4) := hX2.at rfl
  have x4 : A2.cell? ⟨w.heap.size, 4, none⟩ = some (.int .i64 a5) := hXa.at rfl
  have y4 : A2.cell? ⟨A.heap.size, 4, none⟩ = some (.int .i64 b5) := hX2.at rfl
  have x5 : A2.cell? ⟨w.heap.size, 5, none⟩ = some (.int .i64 a6) := hXa.at rfl
  have y5 : A2.cell? ⟨A.heap.size, 5, none⟩ = some (.int .i64 b6) := hX2.at rfl
  have x6 : A2.cell? ⟨w.heap.size, 6, none⟩ = some (.slice q n cap) := hXa.at rfl
  have y6 : A2.cell? ⟨A.heap.size, 6, none⟩ = some (.slice q2 m cap2) := hX2.at rfl
  have hwA := ab_trans hw hw2
  clear hX hX2 hXa hw hw2 HQq
  by_cases c1 : a1 = b1
  · subst c1
    have q1 : (a1 == a1) = true := by simp
    by_cases c2 : a2 = b2
    · subst c2
      have q2 : (a2 == a2) = true := by simp
      by_cases c3 : a3 = b3
      · subst c3
        have q3 : (a3 == a3) = true := by simp
        by_cases c4 : a4 = b4
        · subst c4
          have q4 : (a4 == a4) = true := by simp
          by_cases c5 : a5 = b5
          · subst c5
            have q5 : (a5 == a5) = true := by simp
            by_cases c6 : a6 = b6
            · subst c6
              have q6 : (a6 == a6) = true := by simp
              go_enter Tryz.func12, Tryz.ntmps12
              go_wp2_with (go_at_call 29; refine (HEq _ hwA).mono ?_; rintro e W2 ⟨⟨z, rfl, hz⟩, b2⟩)
              go_ret
              exact ⟨⟨z, rfl, hz.trans ⟨fun h => HSm.out.2 ⟨by first | rfl | trivial, by first | rfl | trivial, by first | rfl | trivial, by first | rfl | trivial, by first | rfl | trivial, by first | rfl | trivial, h⟩, fun h => (HSm.out.1 h).2.2.2.2.2.2⟩⟩, ab_trans hwA (by assumption)⟩
            · have HNo : Hid (¬ PP) := fun h => c6 (HSm.out.1 h).2.2.2.2.2.1
              have q6 : (a6 == b6) = false := by simp [c6]
              clear c6 HSm HEq
              go_enter Tryz.func12, Tryz.ntmps12
              go_wp2_with fail
              go_ret
              exact ⟨bi_no HNo.out, hwA⟩
          · have HNo : Hid (¬ PP) := fun h => c5 (HSm.out.1 h).2.2.2.2.1
            have q5 : (a5 == b5) = false := by simp [c5]
            clear c5 HSm HEq
            go_enter Tryz.func12, Tryz.ntmps12
            go_wp2_with fail
            go_ret
            exact ⟨bi_no HNo.out, hwA⟩
        · have HNo : Hid (¬ PP) := fun h => c4 (HSm.out.1 h).2.2.2.1
          have q4 : (a4 == b4) = false := by simp [c4]
          clear c4 HSm HEq
          go_enter Tryz.func12, Tryz.ntmps12
          go_wp2_with fail
          go_ret
          exact ⟨bi_no HNo.out, hwA⟩
      · have HNo : Hid (¬ PP) := fun h => c3 (HSm.out.1 h).2.2.1
        have q3 : (a3 == b3) = false := by simp [c3]
        clear c3 HSm HEq
        go_enter Tryz.func12, Tryz.ntmps12
        go_wp2_with fail
        go_ret
        exact ⟨bi_no HNo.out, hwA⟩
    · have HNo : Hid (¬ PP) := fun h => c2 (HSm.out.1 h).2.1
      have q2 : (a2 == b2) = false := by simp [c2]
      clear c2 HSm HEq
      go_enter Tryz.func12, Tryz.ntmps12
      go_wp2_with fail
      go_ret
      exact ⟨bi_no HNo.out, hwA⟩
  · have HNo : Hid (¬ PP) := fun h => c1 (HSm.out.1 h).1
    have q1 : (a1 == b1) = false := by simp [c1]
    clear c1 HSm HEq
    go_enter Tryz.func12, Tryz.ntmps12
    go_wp2_with fail
    go_ret
    exact ⟨bi_no HNo.out, hwA⟩
end Go.Proofs.YtclfdagenaaalaaGreat
namespace Go.Proofs.YtclfdagenaaalaaGreat
open Go.RowKit Go.Maps
set_option linter.unusedVariables false
set_option maxRecDepth 100000

set_option maxHeartbeats 2000000 in
theorem rsame17_any (a b : Btc) (v u : Value) (w : World) (hv : ER EE w v a.en) (hu : ER EE w u b.en) :
    Calls Tryz.prog 13 #[.agg (btA a v), .agg (btA b u)] w fun e w' => BIff e (SmB a b) ∧ Below w.heap.size w w' := by
  obtain ⟨q, cap, ev⟩ := hv.form
  obtain ⟨q2, cap2, eu⟩ := hu.form
  subst ev eu
  have HV : Hid (ER EE w (.slice q a.en.length cap) a.en ∧ ER EE w (.slice q2 b.en.length cap2) b.en) := ⟨hv, hu⟩
  have hn63 : (a.en.length : Int) ≤ 9223372036854775807 := by
    obtain ⟨q', c', g', o', e', h2, h3, -⟩ := hv
    omega
  clear hv hu
  obtain ⟨a1, a2, ⟨a3, a4⟩, ⟨a5, a6⟩, L⟩ := a
  obtain ⟨b1, b2, ⟨b3, b4⟩, ⟨b5, b6⟩, M⟩ := b
  unfold btA
  try dsimp only at *
  have HSm : Hid (SmB ⟨a1, a2, (a3, a4), (a5, a6), L⟩ ⟨b1, b2, (b3, b4), (b5, b6), M⟩ ↔ a1 = b1 ∧ a2 = b2 ∧ a3 = b3 ∧ a4 = b4 ∧ a5 = b5 ∧ a6 = b6 ∧ EqL 76 (L.map entF) (M.map entF)) := ⟨fun h => ⟨h.ep, h.ln, h.f0, h.f1, h.t0, h.t1, h.en⟩, fun ⟨h1, h2, h3, h4, h5, h6, h7⟩ => ⟨h1, h2, h3, h4, h5, h6, h7⟩⟩
  generalize SmB ⟨a1, a2, (a3, a4), (a5, a6), L⟩ ⟨b1, b2, (b3, b4), (b5, b6), M⟩ = PP at *
  generalize hn : L.length = n at *
  generalize hm : M.length = m at *
  obtain ⟨A, hE, hX, hw⟩ := blk1 w #[.int .i64 a1, .int .i64 a2, .int .i64 a3, .int .i64 a4, .int .i64 a5, .int .i64 a6, .slice q n cap] 33
  obtain ⟨A2, hE2, hX2, hw2⟩ := blk1 A #[.int .i64 b1, .int .i64 b2, .int .i64 b3, .int .i64 b4, .int .i64 b5, .int .i64 b6, .slice q2 m cap2] 33
  have hXa := hX.keep hw2
  have x0 : A2.cell? ⟨w.heap.size, 0, none⟩ = some (.int .i64 a1) := hXa.at rfl
  have y0 : A2.cell? ⟨A.heap.size, 0, none⟩ = some (.int .i64 b1) := hX2.at rfl
  have x1 : A2.cell? ⟨w.heap.size, 1, none⟩ = some (.int .i64 a2) := hXa.at rfl
  have y1 : A2.cell? ⟨A.heap.size, 1, none⟩ = some (.int .i64 b2) := hX2.at rfl
  have x2 : A2.cell? ⟨w.heap.size, 2, none⟩ = some (.int .i64 a3) := hXa.at rfl
  have y2 : A2.cell? ⟨A.heap.size, 2, none⟩ = some (.int .i64 b3) := hX2.at rfl
  have x3 : A2.cell? ⟨w.heap.size, 3, none⟩ = some (.int .i64 a4) := hXa.at rfl
  have y3 : A2.cell? ⟨A.heap.size, 3, none⟩ = some (.int .i64 b4) := hX2.at rfl
  have x4 : A2.cell? ⟨w.heap.size, 4, none⟩ = some (.int .i64 a5) := hXa.at rfl
  have y4 : A2.cell? ⟨A.heap.size, 4, none⟩ = some (.int .i64 b5) := hX2.at rfl
  have x5 : A2.cell? ⟨w.heap.size, 5, none⟩ = some (.int .i64 a6) := hXa.at rfl
  have y5 : A2.cell? ⟨A.heap.size, 5, none⟩ = some (.int .i64 b6) := hX2.at rfl
  have x6 : A2.cell? ⟨w.heap.size, 6, none⟩ = some (.slice q n cap) := hXa.at rfl
  have y6 : A2.cell? ⟨A.heap.size, 6, none⟩ = some (.slice q2 m cap2) := hX2.at rfl
  have hwA := ab_trans hw hw2
  have HX : Hid (∀ V, Below A2.heap.size A2 V → V.cell? ⟨w.heap.size, 6, none⟩ = some (.slice q n cap) ∧ V.cell? ⟨A.heap.size, 6, none⟩ = some (.slice q2 m cap2) ∧ Below w.heap.size w V) := fun V hV => ⟨(hXa.keep hV).at rfl, (hX2.keep hV).at rfl, ab_trans hwA hV⟩
  have l1 : w.heap.size < A2.heap.size := hXa.lt
  have l2 : A.heap.size < A2.heap.size := hX2.lt
  clear hX hX2 hXa hw hw2
  by_cases c1 : a1 = b1
  · subst c1
    have rq1 : (a1 == a1) = true := by simp
    have rp1 : (a1 != a1) = false := by simp
    by_cases c2 : a2 = b2
    · subst c2
      have rq2 : (a2 == a2) = true := by simp
      have rp2 : (a2 != a2) = false := by simp
      by_cases c3 : a3 = b3
      · subst c3
        have rq3 : (a3 == a3) = true := by simp
        have rp3 : (a3 != a3) = false := by simp
        by_cases c4 : a4 = b4
        · subst c4
          have rq4 : (a4 == a4) = true := by simp
          have rp4 : (a4 != a4) = false := by simp
          by_cases c5 : a5 = b5
          · subst c5
            have rq5 : (a5 == a5) = true := by simp
            have rp5 : (a5 != a5) = false := by simp
            by_cases c6 : a6 = b6
            · subst c6
              have rq6 : (a6 == a6) = true := by simp
              have rp6 : (a6 != a6) = false := by simp
              have HS7 : Hid (PP ↔ EqL 76 (L.map entF) (M.map entF)) := ⟨fun h => (HSm.out.1 h).2.2.2.2.2.2, fun h => HSm.out.2 ⟨rfl, rfl, rfl, rfl, rfl, rfl, h⟩⟩
              clear HSm
              by_cases c7 : n = m
              · subst c7
                have rq7 : ((n : Int) != (n : Int)) = false := by simp
                generalize hb1 : A.heap.size = b1 at *
                go_enter Tryz.func13, Tryz.ntmps13
                go_upto_region 3 with fail
                clear x0 x1 x2 x3 x4 x5 x6 y0 y1 y2 y3 y4 y5 y6 hE hE2
                obtain ⟨bx, hbx⟩ : ∃ bx, w.heap.size = bx := ⟨_, rfl⟩
                have HX2 : Hid (∀ V, Below A2.heap.size A2 V → V.cell? ⟨bx, 6, none⟩ = some (.slice q n cap) ∧ V.cell? ⟨b1, 6, none⟩ = some (.slice q2 n cap2) ∧ Below w.heap.size w V) := fun V hV => by rw [← hbx]; exact HX.out V hV
                have l1' : bx < A2.heap.size := by omega
                rw [hbx]
                clear hbx HX l1
                go_wp2_with fail
                go_loopw [5] (fun z wr => ∃ k : Nat, k ≤ n ∧ z = .int .i64 (k : Int) ∧ EqL 76 ((L.map entF).take k) ((M.map entF).take k) ∧ Below A2.heap.size A2 wr) (fun z _ => n - (intOf z).toNat)
                case atStart => exact ⟨0, by omega, rfl, by simpa using EqL.refl _ _, Below.refl _ _⟩
                case round =>
                  obtain ⟨k, hk, rfl, ht, hb⟩ := hrel
                  have HT : Hid (EqL 76 ((L.map entF).take k) ((M.map entF).take k)) := ht
                  clear ht
                  obtain ⟨z1, z2, hwb⟩ := HX2.out wr hb
                  by_cases ck : k = n
                  · have HE : Hid (EqL 76 (L.map entF) (M.map entF)) := by
                      have := HT.out
                      rw [List.take_of_length_le (by rw [List.length_map]; omega), List.take_of_length_le (by rw [List.length_map]; omega)] at this
                      exact this
                    subst ck
                    go_wp2_with fail
                    go_ret
                    exact ⟨⟨true, rfl, ⟨fun _ => HS7.out.2 HE.out, fun _ => rfl⟩⟩, hwb⟩
                  · obtain ⟨x, hx⟩ : ∃ x, L[k]? = some x := ⟨L[k]'(by omega), List.getElem?_eq_getElem (by omega)⟩
                    obtain ⟨y, hy⟩ : ∃ y, M[k]? = some y := ⟨M[k]'(by omega), List.getElem?_eq_getElem (by omega)⟩
                    have hki : (k : Int) < (n : Int) := by omega
                    have HKN : Hid (k < n) := by show _ < _; omega
                    obtain ⟨g1, o1, rfl, hg1, hr1⟩ := er_range HV.out.1 (by omega)
                    obtain ⟨g2, o2, rfl, hg2, hr2⟩ := er_range HV.out.2 (by omega)
                    have R1 : Hid (∀ V, Below wr.heap.size wr V → V.rangeAt g1 (o1 + k * 76) (AG 76 ek (entF x)).toList) := fun V hV => by
                      have := range_keep (hr1 k x hx) hg1 (ab_trans hwb hV)
                      rw [EE_AG] at this
                      exact this
                    have R2 : Hid (∀ V, Below wr.heap.size wr V → V.rangeAt g2 (o2 + k * 76) (AG 76 ek (entF y)).toList) := fun V hV => by
                      have := range_keep (hr2 k y hy) hg2 (ab_trans hwb hV)
                      rw [EE_AG] at this
                      exact this
                    have HN : Hid ((∀ i, i < 76 → entF x i = entF y i) → EqL 76 ((L.map entF).take (k + 1)) ((M.map entF).take (k + 1))) := fun e => eqL_next HT.out (by rw [List.getElem?_map, hx]; rfl) (by rw [List.getElem?_map, hy]; rfl) e
                    have HE : Hid ((¬ ∀ i, i < 76 → entF x i = entF y i) → ¬ EqL 76 (L.map entF) (M.map entF)) := fun e h => e (h.2 k _ _ (by rw [List.getElem?_map, hx]; rfl) (by rw [List.getElem?_map, hy]; rfl))
                    have w1 := cls_cell z1 (Nat.lt_of_lt_of_le l1' hb.size)
                    have w2 := cls_cell z2 (Nat.lt_of_lt_of_le l2 hb.size)
                    clear hr1 hr2 hx hy
                    go_upto_region 6 with fail
                    clear z1 z2
                    refine wp_region_below (by kernel_rfl) (by kernel_rfl) ?_
                    have HZ := cls_some wr
                    iterate 4 (go_big_quiet_step (fail))
                    refine quiet_val rfl _ (fun w' hw' => by obtain ⟨z, hz⟩ := hw'; exact ld_ents rfl rfl (hz ▸ R1.out _ z.prop)) ?_
                    simp only [Act.put, List.setIfInBounds_toArray, List.set_cons_succ, List.set_cons_zero]
                    iterate 4 (go_big_quiet_step (fail))
                    refine quiet_val rfl _ (fun w' hw' => by obtain ⟨z, hz⟩ := hw'; exact ld_ents rfl rfl (hz ▸ R2.out _ z.prop)) ?_
                    simp only [Act.put, List.setIfInBounds_toArray, List.set_cons_succ, List.set_cons_zero]
                    refine quiet_val rfl _ (fun w' _ => neqo_ents (c := entF x) (d := entF y) rfl rfl rfl w') ?_
                    simp only [Act.put, List.setIfInBounds_toArray, List.set_cons_succ, List.set_cons_zero]
                    refine wpQuiet_nil ?_
                    rintro W7 ⟨⟨W7', b7⟩, rfl⟩
                    try dsimp only
                    clear w1 w2 HZ
                    have hb7 := ab_trans hb b7
                    have hw7 := (HX2.out _ hb7).2.2
                    cases he : eqA 76 (entF x) (entF y) with
                    | true =>
                      have HH := HN.out ((eqA_iff 76 _ _).1 he)
                      clear he HE HN
                      go_wp2_with fail
                      go_roundw
                      case rel => exact ⟨k + 1, by have := HKN.out; omega, by go_num, HH, hb7⟩
                      case measure => have := HKN.out; simp [intOf]; omega
                    | false =>
                      have HH : Hid (¬ PP) := fun h => HE.out (fun e => by rw [(eqA_iff 76 _ _).2 e] at he; cases he) (HS7.out.1 h)
                      clear he HE HN
                      go_wp2_with fail
                      go_ret
                      exact ⟨bi_no HH.out, hw7⟩
              · have HNo : Hid (¬ PP) := fun h => c7 (by have := (HS7.out.1 h).1; rw [List.length_map, List.length_map] at this; omega)
                have rq7 : ((n : Int) != (m : Int)) = true := by simp; omega
                clear c7 HS7
                go_enter Tryz.func13, Tryz.ntmps13
                go_wp2_with fail
                go_ret
                exact ⟨bi_no HNo.out, hwA⟩
            · have HNo : Hid (¬ PP) := fun h => c6 (HSm.out.1 h).2.2.2.2.2.1
              have rq6 : (a6 == b6) = false := by simp [c6]
              have rp6 : (a6 != b6) = true := by simp [c6]
              clear c6 HSm
              go_enter Tryz.func13, Tryz.ntmps13
              go_wp2_with fail
              go_ret
              exact ⟨bi_no HNo.out, hwA⟩
          · have HNo : Hid (¬ PP) := fun h => c5 (HSm.out.1 h).2.2.2.2.1
            have rq5 : (a5 == b5) = false := by simp [c5]
            have rp5 : (a5 != b5) = true := by simp [c5]
            clear c5 HSm
            go_enter Tryz.func13, Tryz.ntmps13
            go_wp2_with fail
            go_ret
            exact ⟨bi_no HNo.out, hwA⟩
        · have HNo : Hid (¬ PP) := fun h => c4 (HSm.out.1 h).2.2.2.1
          have rq4 : (a4 == b4) = false := by simp [c4]
          have rp4 : (a4 != b4) = true := by simp [c4]
          clear c4 HSm
          go_enter Tryz.func13, Tryz.ntmps13
          go_wp2_with fail
          go_ret
          exact ⟨bi_no HNo.out, hwA⟩
      · have HNo : Hid (¬ PP) := fun h => c3 (HSm.out.1 h).2.2.1
        have rq3 : (a3 == b3) = false := by simp [c3]
        have rp3 : (a3 != b3) = true := by simp [c3]
        clear c3 HSm
        go_enter Tryz.func13, Tryz.ntmps13
        go_wp2_with fail
        go_ret
        exact ⟨bi_no HNo.out, hwA⟩
    · have HNo : Hid (¬ PP) := fun h => c2 (HSm.out.1 h).2.1
      have rq2 : (a2 == b2) = false := by simp [c2]
      have rp2 : (a2 != b2) = true := by simp [c2]
      clear c2 HSm
      go_enter Tryz.func13, Tryz.ntmps13
      go_wp2_with fail
      go_ret
      exact ⟨bi_no HNo.out, hwA⟩
  · have HNo : Hid (¬ PP) := fun h => c1 (HSm.out.1 h).1
    have rq1 : (a1 == b1) = false := by simp [c1]
    have rp1 : (a1 != b1) = true := by simp [c1]
    clear c1 HSm
    go_enter Tryz.func13, Tryz.ntmps13
    go_wp2_with fail
    go_ret
    exact ⟨bi_no HNo.out, hwA⟩
end Go.Proofs.YtclfdagenaaalaaGreat
