/-
  Which batches are in form, and what notes they have: estuarylaw17.GateForms returns true for every input; no condition.
-/
import Derived.Test.YtclfdagenaaalaaGreatPk53
import Derived.Test.YtclfdagenaaalaaGreatPk54
import Derived.Test.YtclfdagenaaalaaGreatPk55
import Derived.Test.YtclfdagenaaalaaGreatPk41
import Derived.Test.YtclfdagenaaalaaGreatPk44
import Derived.Test.YtclfdagenaaalaaGreatPk09
import Derived.ProofKit
import Derived.OpenShut
import Derived.ChangeOld
import Derived.Below
namespace Go.Proofs.YtclfdagenaaalaaGreat.gateForms
open Go.ChangeShapes Go.WideShapes Go.ChangeAt Go.RowKit Go.Joins
set_option linter.unusedVariables false
set_option maxRecDepth 100000

theorem q20 (w : World) : (binOp .eql 39 (Err 2) .nilIface).run Tryz.prog w = .ok (.bool false) w := by kernel_rfl
theorem q00 (w : World) : (binOp .eql 39 .nilIface .nilIface).run Tryz.prog w = .ok (.bool true) w := by kernel_rfl
theorem q22 (w : World) : (binOp .eql 39 (Err 2) (Err 2)).run Tryz.prog w = .ok (.bool true) w := by kernel_rfl
theorem ld_btR {o : Oper} {ρ : Operand → Value} {x : Operand} {b : Nat} {cs : Array Value} {t : TypeId} {w : World} (ho : o.op = .load 33 x) (hx : ρ x = .pointer (some ⟨b, 0, none⟩)) (hB : Blk w b cs t) (hi : (Tryz.prog.info? 33).map (·.size) = some cs.size) :
    (execOp ρ o).run Tryz.prog w = .ok (.value (.agg cs)) w := by
  unfold execOp
  simp only [ho, hx, Instr.loadAt, Instr.sureAddr, Sem.run_bind, Sem.run_pure, Result.andThen_ok, run_loadVar_row w b t 33 cs (0, 0) _ hB Tryz.underlying33 rfl hi]
theorem be0_run (w : World) : (Instr.buildSlice 31 0 #[]).run Tryz.prog w = .ok (.slice (some ⟨w.heap.size, 0, none⟩) 0 0) (w.alloc (.cells #[] 79)) := by kernel_rfl
theorem big17 (ep ln f0 f1 t0 t1 : Int) (q : Option Addr) (n cap : Nat) (k f t : Int) (qn qo qe : Option Addr) (nn cn no co ne ce : Nat) (w : World) (h1 : nn ≤ 17592186043904) (h2 : no ≤ 3518437208780) (h3 : ne ≤ 231476132156) (hn : 100 < n ∨ 300 < nn + no + ne) :
    Calls Tryz.prog 4 #[.agg #[.int .i64 ep, .int .i64 ln, .int .i64 f0, .int .i64 f1, .int .i64 t0, .int .i64 t1, .slice q n cap], .agg #[.int .i64 k, .int .i64 f, .int .i64 t, .slice qn nn cn, .slice qo no co, .slice qe ne ce]] w fun e w' => e = .returned (.bool true) ∧ Below w.heap.size w w' := by
  obtain ⟨A, hE, hX, hN, hw⟩ := blk2 w #[.int .i64 ep, .int .i64 ln, .int .i64 f0, .int .i64 f1, .int .i64 t0, .int .i64 t1, .slice q n cap] #[.int .i64 k, .int .i64 f, .int .i64 t, .slice qn nn cn, .slice qo no co, .slice qe ne ce] 33 36
  go_enter Tryz.func4, Tryz.ntmps4
  go_upto_region 1 with fail
  clear hE
  go_upto_region 3 with (go_at_call 6; refine (alive17_any _).mono ?_; rintro e W1 ⟨rfl, b1⟩)
  have x6 : W1.cell? ⟨w.heap.size, 6, none⟩ = some (.slice q n cap) := (hX.keep b1).at rfl
  have y3 : W1.cell? ⟨w.heap.size + 1, 3, none⟩ = some (.slice qn nn cn) := (hN.keep b1).at rfl
  have y4 : W1.cell? ⟨w.heap.size + 1, 4, none⟩ = some (.slice qo no co) := (hN.keep b1).at rfl
  have y5 : W1.cell? ⟨w.heap.size + 1, 5, none⟩ = some (.slice qe ne ce) := (hN.keep b1).at rfl
  have hw1 := ab_trans hw b1
  clear hX hN hw b1
  by_cases c1 : (100 : Int) < (n : Int)
  · clear hn
    go_wp2_with fail
    go_ret
    exact ⟨rfl, hw1⟩
  · have c2 : (300 : Int) < (nn : Int) + (no : Int) + (ne : Int) := by omega
    clear hn
    go_wp2_with fail
    go_ret
    exact ⟨rfl, hw1⟩
def nB (ep ln f0 f1 t0 t1 : Int) (L : List Ent) : Nt := ⟨8, 3, 4, [ep, ln, f0, f1, t0, t1], [], L.map entF⟩
theorem entQ_refl (L : List Ent) : EntQ L L := ⟨rfl, fun j x y hx hy => by rw [hx] at hy; cases hy; exact ⟨rfl, fun i hi => rfl⟩⟩
set_option maxHeartbeats 8000000 in
theorem small17 (ep ln f0 f1 t0 t1 : Int) (v : Value) (L : List Ent) (N : Nt) (LN : List Ent) (vn vo ve : Value) (w : World) (hv : ER EE w v L) (hn : L.length ≤ 100) (h1 : Is w vn N.ns) (h2 : SR 5 k64 w vo N.os) (h3 : ER EE w ve LN) (hsum : N.ns.length + N.os.length + LN.length ≤ 300) :
    Calls Tryz.prog 4 #[.agg #[.int .i64 ep, .int .i64 ln, .int .i64 f0, .int .i64 f1, .int .i64 t0, .int .i64 t1, v], ntV N vn vo ve] w fun e w' => e = .returned (.bool true) ∧ Below w.heap.size w w' := by
  have HV : Hid (∀ V, Below w.heap.size w V → ER EE V v L) := fun V hV => hv.keep hV
  have HBa : Hid (∀ V, Below w.heap.size w V → Calls Tryz.prog 14 #[ntV N vn vo ve] V fun e w' => GbE V.heap.size e w' N LN ∧ Below V.heap.size V w') := fun V hV => gbatch_any N LN vn vo ve V (h1.keep hV) (h2.keep hV) (h3.keep hV)
  have HRb : Hid (∀ V, Below w.heap.size w V → Calls Tryz.prog 15 #[ntV N vn vo ve] V fun e w' => RbE e N LN ve ∧ Below V.heap.size V w') := fun V hV => rbatch17_any N LN vn vo ve V (h1.keep hV) (h2.keep hV) (h3.keep hV)
  have HVe : Hid (∀ V, Below w.heap.size w V → ER EE V ve LN) := fun V hV => h3.keep hV
  obtain ⟨q, cap, ev⟩ := hv.form
  obtain ⟨qn, cn, en⟩ := h1.form
  obtain ⟨qo, co, go, oo, eo, -⟩ := h2
  obtain ⟨qe, ce, ee⟩ := h3.form
  subst ev en eo ee
  clear hv h1 h3
  obtain ⟨k, f, t, ns, os, es⟩ := N
  try dsimp only at *
  have HB0 : Hid (∀ b : Btc, b = ntB ⟨k, f, t, ns, os, es⟩ LN → b.en = LN) := fun b hb => by rw [hb]; rfl
  generalize hnl : L.length = n at *
  generalize hnn : ns.length = nn at *
  generalize hno : os.length = no at *
  generalize hne : LN.length = ne at *
  have hle : LN.length = ne := hne
  clear hnn hno
  obtain ⟨A, hE, hX, hN, hw⟩ := blk2 w #[.int .i64 ep, .int .i64 ln, .int .i64 f0, .int .i64 f1, .int .i64 t0, .int .i64 t1, .slice q n cap] #[.int .i64 k, .int .i64 f, .int .i64 t, .slice qn nn cn, .slice qo no co, .slice qe ne ce] 33 36
  have hxl := hX.lt
  have HX : Hid (∀ V, Below A.heap.size A V → Blk V w.heap.size #[.int .i64 ep, .int .i64 ln, .int .i64 f0, .int .i64 f1, .int .i64 t0, .int .i64 t1, .slice q n cap] 33 ∧ Blk V (w.heap.size + 1) #[.int .i64 k, .int .i64 f, .int .i64 t, .slice qn nn cn, .slice qo no co, .slice qe ne ce] 36 ∧ Below w.heap.size w V) := fun V hV => ⟨hX.keep hV, hN.keep hV, ab_trans hw hV⟩
  clear hX hN hw
  go_enter Tryz.func4, Tryz.ntmps4
  go_upto_region 1 with fail
  clear hE
  go_upto_region 3 with (go_at_call 6; refine (alive17_any _).mono ?_; rintro e W1 ⟨rfl, b1⟩)
  obtain ⟨hX1, hN1, hw1⟩ := HX.out W1 b1
  have x6 : W1.cell? ⟨w.heap.size, 6, none⟩ = some (.slice q n cap) := hX1.at rfl
  have y3 : W1.cell? ⟨w.heap.size + 1, 3, none⟩ = some (.slice qn nn cn) := hN1.at rfl
  have y4 : W1.cell? ⟨w.heap.size + 1, 4, none⟩ = some (.slice qo no co) := hN1.at rfl
  have y5 : W1.cell? ⟨w.heap.size + 1, 5, none⟩ = some (.slice qe ne ce) := hN1.at rfl
  have c1 : ¬ (100 : Int) < (n : Int) := by omega
  have c2 : ¬ (300 : Int) < (nn : Int) + (no : Int) + (ne : Int) := by omega
  have hn300 : nn ≤ 300 ∧ no ≤ 300 ∧ ne ≤ 300 := by omega
  clear hN1
  go_upto_region 5 with fail
  clear c1 c2 y3 y4 y5 x6
  go_upto_region 6 with (first
    | (refine ld_blk rfl rfl hX1 rfl _ Tryz.underlying33 rfl (info_bt ⟨ep, ln, (f0, f1), (t0, t1), L⟩ q n cap) ?_)
    | (refine al_blk rfl rfl (btA zBt (.slice none 0 0)) (zero_bt _) ?_; intro W2 e2 hX2 b2; clear e2)
    | (refine st_blk rfl rfl hX2 rfl (vs := #[.int .i64 ep, .int .i64 ln, .int .i64 f0, .int .i64 f1, .int .i64 t0, .int .i64 t1, .slice q n cap]) rfl (info_bt ⟨ep, ln, (f0, f1), (t0, t1), L⟩ q n cap) rfl (bt_one ⟨ep, ln, (f0, f1), (t0, t1), L⟩ q n cap) ?_; intro W3 hX3 C3))
  have b23 := ab_chg b2 C3 (Nat.le_refl _)
  have bA3 := ab_trans b1 b23
  have hs1 := hw1.size
  have hs01 : A.heap.size ≤ W1.heap.size := b1.size
  have hlt13 := hX3.lt
  have HX3 : Hid (∀ V, Below W3.heap.size W3 V → V.cell? ⟨w.heap.size, 6, none⟩ = some (.slice q n cap) ∧ ER EE V (.slice q n cap) L) := fun V hV => ⟨(HX.out V (ab_trans bA3 hV)).1.at rfl, HV.out V (HX.out V (ab_trans bA3 hV)).2.2⟩
  clear hX1 hX2 b2 C3 b23 b1 hw1
  obtain ⟨x6, hER3⟩ := HX3.out W3 (Below.refl _ _)
  have hxl3 : w.heap.size < W3.heap.size := by omega
  go_upto_region 7 with (first
    | (refine bsE0 (E := EE) (e := 79) rfl rfl (by simp) be0_run ?_; intro W4 hO4 b4; have x64 := keep_cell b4 x6 hxl3; go_frame)
    | (have mk := b4; clear mk; refine app_e (E := EE) W3 rfl rfl Tryz.underlying31 infoEntB (by show (entA zEnt).size = 76; exact entA_size _) rfl hO4 rfl (hER3.keep b4) (by rw [List.length_nil]; omega) (by rw [List.length_nil]; omega) b4 ?_; intro v5 W5 hO5' b5 hg5; have hO5 : EO EE 79 W5 W3.heap.size v5 L := hO5'; clear hO5'; obtain ⟨qx, cx, ex⟩ := hO5.form; rw [hnl] at ex; subst ex; have hX5 := hX3.keep b5; have d5 : W5.cell? ⟨W1.heap.size, 6, none⟩ = some (.slice q n cap) := hX5.at rfl; have f5 := hX5.frozen 6; go_frame))
  obtain ⟨W6, hV6⟩ : ∃ V2, W5.setCell ⟨W1.heap.size, 6, none⟩ (.slice qx n cx) = V2 := ⟨_, rfl⟩
  rw [hV6]
  have hX6 : Blk W6 W1.heap.size #[.int .i64 ep, .int .i64 ln, .int .i64 f0, .int .i64 f1, .int .i64 t0, .int .i64 t1, .slice qx n cx] 33 := hV6 ▸ hX5.set 6 (.slice qx n cx)
  have hC6 : Chg W1.heap.size W5 W6 := hV6 ▸ chg_set _ _ _ _
  have hO6 : EO EE 79 W6 W3.heap.size (.slice qx n cx) L := own_at hO5 (fun g hg => hC6.other g (fun e => absurd ((eo_kindA hO5 hg).uniq (e ▸ hX5.kindR)) (by decide)))
  have hb6 : Below A.heap.size A W6 := by
    exact ab_chg (ab_trans bA3 b5) hC6 hs01
  have HX6 : Hid (∀ V, Below W6.heap.size W6 V → Blk V w.heap.size #[.int .i64 ep, .int .i64 ln, .int .i64 f0, .int .i64 f1, .int .i64 t0, .int .i64 t1, .slice q n cap] 33 ∧ Blk V W1.heap.size #[.int .i64 ep, .int .i64 ln, .int .i64 f0, .int .i64 f1, .int .i64 t0, .int .i64 t1, .slice qx n cx] 33 ∧ ER EE V (.slice q n cap) L ∧ ER EE V (.slice qx n cx) L ∧ Below w.heap.size w V) := fun V hV => ⟨(HX.out V (ab_trans hb6 hV)).1, hX6.keep hV, HV.out V (HX.out V (ab_trans hb6 hV)).2.2, (hO6.keep hV).er, (HX.out V (ab_trans hb6 hV)).2.2⟩
  have HN6 : Hid (∀ V, Below W6.heap.size W6 V → Blk V (w.heap.size + 1) #[.int .i64 k, .int .i64 f, .int .i64 t, .slice qn nn cn, .slice qo no co, .slice qe ne ce] 36) := fun V hV => (HX.out V (ab_trans hb6 hV)).2.1
  have er0 : ∀ V, ER EE V (.slice none 0 0) [] := fun V => (eo_nil EE 79 V 0).er
  clear hV6 hX5 hC6 hO5 hO6 hX6 d5 f5 b5 hX3 HX3 hb6 bA3 b4 hO4 hg5 x6 x64 hER3
  by_cases hgk : GkP ⟨ep, ln, (f0, f1), (t0, t1), L⟩
  · as_aux_lemma =>
    have HC : ∀ V, Below w.heap.size w V → ER EE V (.slice qx n cx) L → Calls Tryz.prog 7 #[.agg #[.int .i64 ep, .int .i64 ln, .int .i64 f0, .int .i64 f1, .int .i64 t0, .int .i64 t1, .slice qx n cx]] V fun e w' => e = .returned (.nilIface) ∧ Below V.heap.size V w' := fun V hV hX => (gcheck_any ⟨ep, ln, (f0, f1), (t0, t1), L⟩ (.slice qx n cx) V hX).mono (fun e w' ⟨h8, h9⟩ => ⟨by rcases h8 with ⟨_, h8⟩ | ⟨h8, _⟩ <;> first | exact h8 | exact absurd hgk h8, h9⟩)
    have HG : ∀ V, Below w.heap.size w V → Calls Tryz.prog 8 #[.agg #[.int .i64 ep, .int .i64 ln, .int .i64 f0, .int .i64 f1, .int .i64 t0, .int .i64 t1, .slice q n cap]] V fun e w' => e = .returned (.bool true) ∧ Below V.heap.size V w' := fun V hV => (rgood17_any ⟨ep, ln, (f0, f1), (t0, t1), L⟩ (.slice q n cap) V (HV.out V hV)).mono (fun e w' ⟨h8, h9⟩ => ⟨by rcases h8 with ⟨_, h8⟩ | ⟨h8, _⟩ <;> first | exact h8 | exact absurd hgk h8, h9⟩)
    clear hgk
    refine wp_region_held_drew (S := fun w' => Below W6.heap.size W6 w') (by kernel_rfl) (ab_drew (Below.refl _ _)) (fun hHeld => ?_)
    refine takeH (i := 0) (some 36) rfl rfl (by kernel_rfl) (by kernel_rfl) (by kernel_rfl) (fun _ _ _ h => h) (by rfl) (fun w hSw => by (try dsimp only at hSw); exact ld_btR rfl rfl (HX6.out _ hSw).2.1 (info_bt ⟨ep, ln, (f0, f1), (t0, t1), L⟩ qx n cx)) hHeld ?_
    go_frame
    refine takeH (i := 3) (some 39) rfl rfl (by kernel_rfl) (by kernel_rfl) (by kernel_rfl) (fun _ _ _ h => h) (by rfl) (fun w hSw => by (try dsimp only at hSw); exact ld_btR rfl rfl (HX6.out _ hSw).1 (info_bt ⟨ep, ln, (f0, f1), (t0, t1), L⟩ q n cap)) hHeld ?_
    go_frame
    refine wpAnyH_ready (rs := [1]) (by kernel_rfl) (by simp) (AllReadyH.cons rfl (fun K hK => ?_) AllReadyH.nil)
    go_simp
    refine (HC _ (HX6.out _ hHeld).2.2.2.2 (HX6.out _ hHeld).2.2.2.1).mono ?_
    rintro e V1 ⟨rfl, v1⟩
    show K _ _
    refine hK.out _ _ (ab_trans hHeld v1) (fun hHeld => ?_)
    clear hK K
    refine takeH (i := 2) (some 38) rfl rfl (by kernel_rfl) (by kernel_rfl) (by kernel_rfl) (fun _ _ _ h => h) (by rfl) (fun w hSw => by (try dsimp only at hSw); (have e0 := q00; go_simp; try rfl)) hHeld ?_
    go_frame
    refine wpAnyH_ready (rs := [4]) (by kernel_rfl) (by simp) (AllReadyH.cons rfl (fun K hK => ?_) AllReadyH.nil)
    go_simp
    refine (HG _ (HX6.out _ hHeld).2.2.2.2).mono ?_
    rintro e V2 ⟨rfl, v2⟩
    show K _ _
    refine hK.out _ _ (ab_trans hHeld v2) (fun hHeld => ?_)
    clear hK K HC HG
    refine takeH (i := 5) (some 41) rfl rfl (by kernel_rfl) (by kernel_rfl) (by kernel_rfl) (fun _ _ _ h => h) (by rfl) (fun w hSw => by (try dsimp only at hSw); go_simp; try rfl) hHeld ?_
    go_frame
    refine takeH (i := 6) (some 42) rfl rfl (by kernel_rfl) (by kernel_rfl) (by kernel_rfl) (fun _ _ _ h => h) (by rfl) (fun w hSw => by (try dsimp only at hSw); go_simp; try rfl) hHeld ?_
    go_frame
    refine takeH (i := 7) (some 43) rfl rfl (by kernel_rfl) (by kernel_rfl) (by kernel_rfl) (fun _ _ _ h => h) (by rfl) (fun w hSw => by (try dsimp only at hSw); exact ld_btR rfl rfl (HX6.out _ hSw).2.1 (info_bt ⟨ep, ln, (f0, f1), (t0, t1), L⟩ qx n cx)) hHeld ?_
    go_frame
    refine takeH (i := 9) (some 45) rfl rfl (by kernel_rfl) (by kernel_rfl) (by kernel_rfl) (fun _ _ _ h => h) (by rfl) (fun w hSw => by (try dsimp only at hSw); exact ld_btR rfl rfl (HX6.out _ hSw).1 (info_bt ⟨ep, ln, (f0, f1), (t0, t1), L⟩ q n cap)) hHeld ?_
    go_frame
    refine wpAnyH_ready (rs := [8]) (by kernel_rfl) (by simp) (AllReadyH.cons rfl (fun K hK => ?_) AllReadyH.nil)
    go_simp
    refine (gnote_any 3 4 ⟨ep, ln, (f0, f1), (t0, t1), L⟩ (.slice qx n cx) _ (HX6.out _ hHeld).2.2.2.1 (by show L.length ≤ 100000; omega)).mono ?_
    rintro e V3 ⟨⟨vn3, ve3, rfl, hI3, hO3⟩, v3⟩
    show K _ _
    refine hK.out _ _ (ab_trans hHeld v3) (fun hHeld => ?_)
    clear hK K
    refine wpAnyH_ready (rs := [10]) (by kernel_rfl) (by simp) (AllReadyH.cons rfl (fun K hK => ?_) AllReadyH.nil)
    go_simp
    refine (rnote17_any 3 4 ⟨ep, ln, (f0, f1), (t0, t1), L⟩ (.slice q n cap) _ (HX6.out _ hHeld).2.2.1).mono ?_
    rintro e V4 ⟨⟨vn4, rfl, hI4⟩, v4⟩
    show K _ _
    have HS5 := rsame_any (nB ep ln f0 f1 t0 t1 L) (nB ep ln f0 f1 t0 t1 L) vn3 (.slice none 0 0) ve3 vn4 (.slice none 0 0) (.slice q n cap) V4 (hI3.is.keep v4) (SR.nil _ _ _) (er_sr76 (hO3.keep v4).er) hI4.is (SR.nil _ _ _) (er_sr76 ((HX6.out _ (ab_trans hHeld v4)).2.2.1))
    refine hK.out _ _ (ab_trans hHeld v4) (fun hHeld => ?_)
    clear hK K
    refine wpAnyH_ready (rs := [11]) (by kernel_rfl) (by simp) (AllReadyH.cons rfl (fun K hK => ?_) AllReadyH.nil)
    go_simp
    refine HS5.mono ?_
    rintro e V5 ⟨⟨z5, rfl, hz5⟩, v5⟩
    obtain rfl := hz5.2 (SameN.refl _)
    show K _ _
    refine hK.out _ _ (ab_trans hHeld v5) (fun hHeld => ?_)
    clear hK K HS5 hz5 hI3 hO3 hI4
    refine takeH (i := 12) (some 48) rfl rfl (by kernel_rfl) (by kernel_rfl) (by kernel_rfl) (fun _ _ _ h => h) (by rfl) (fun w hSw => by (try dsimp only at hSw); go_simp; try rfl) hHeld ?_
    go_frame
    refine takeH (i := 13) (some 49) rfl rfl (by kernel_rfl) (by kernel_rfl) (by kernel_rfl) (fun _ _ _ h => h) (by rfl) (fun w hSw => by (try dsimp only at hSw); go_simp; try rfl) hHeld ?_
    go_frame
    refine takeH (i := 14) (some 50) rfl rfl (by kernel_rfl) (by kernel_rfl) (by kernel_rfl) (fun _ _ _ h => h) (by rfl) (fun w hSw => by (try dsimp only at hSw); go_simp; try rfl) hHeld ?_
    go_frame
    refine takeH (i := 15) (some 51) rfl rfl (by kernel_rfl) (by kernel_rfl) (by kernel_rfl) (fun _ _ _ h => h) (by rfl) (fun w hSw => by (try dsimp only at hSw); exact ld_btR rfl rfl (HX6.out _ hSw).2.1 (info_bt ⟨ep, ln, (f0, f1), (t0, t1), L⟩ qx n cx)) hHeld ?_
    go_frame
    refine takeH (i := 16) (some 52) rfl rfl (by kernel_rfl) (by kernel_rfl) (by kernel_rfl) (fun _ _ _ h => h) (by rfl) (fun w hSw => by (try dsimp only at hSw); exact ld_btR rfl rfl (HX6.out _ hSw).1 (info_bt ⟨ep, ln, (f0, f1), (t0, t1), L⟩ q n cap)) hHeld ?_
    go_frame
    refine wpAnyH_ready (rs := [17]) (by kernel_rfl) (by simp) (AllReadyH.cons rfl (fun K hK => ?_) AllReadyH.nil)
    go_simp
    refine (gsame17_any ⟨ep, ln, (f0, f1), (t0, t1), L⟩ ⟨ep, ln, (f0, f1), (t0, t1), L⟩ (.slice qx n cx) (.slice q n cap) _ (HX6.out _ hHeld).2.2.2.1 (HX6.out _ hHeld).2.2.1).mono ?_
    rintro e V6 ⟨⟨z6, rfl, hz6⟩, v6⟩
    obtain rfl := hz6.2 ⟨rfl, rfl, rfl, rfl, rfl, rfl, .refl _ _⟩
    show K _ _
    refine hK.out _ _ (ab_trans hHeld v6) (fun hHeld => ?_)
    clear hK K hz6
    refine takeH (i := 18) (some 54) rfl rfl (by kernel_rfl) (by kernel_rfl) (by kernel_rfl) (fun _ _ _ h => h) (by rfl) (fun w hSw => by (try dsimp only at hSw); go_simp; try rfl) hHeld ?_
    go_frame
    refine takeH (i := 19) (some 55) rfl rfl (by kernel_rfl) (by kernel_rfl) (by kernel_rfl) (fun _ _ _ h => h) (by rfl) (fun w hSw => by (try dsimp only at hSw); go_simp; try rfl) hHeld ?_
    go_frame
    refine takeH (i := 20) (some 56) rfl rfl (by kernel_rfl) (by kernel_rfl) (by kernel_rfl) (fun _ _ _ h => h) (by rfl) (fun w hSw => by (try dsimp only at hSw); go_simp; try rfl) hHeld ?_
    go_frame
    refine takeH (i := 21) (some 57) rfl rfl (by kernel_rfl) (by kernel_rfl) (by kernel_rfl) (fun _ _ _ h => h) (by rfl) (fun w hSw => by (try dsimp only at hSw); exact ld_btR rfl rfl (HX6.out _ hSw).2.1 (info_bt ⟨ep, ln, (f0, f1), (t0, t1), L⟩ qx n cx)) hHeld ?_
    go_frame
    refine takeH (i := 22) (some 58) rfl rfl (by kernel_rfl) (by kernel_rfl) (by kernel_rfl) (fun _ _ _ h => h) (by rfl) (fun w hSw => by (try dsimp only at hSw); exact bd_run rfl built_bt0 (by simp) _) hHeld ?_
    go_frame
    refine takeH (i := 24) (some 60) rfl rfl (by kernel_rfl) (by kernel_rfl) (by kernel_rfl) (fun _ _ _ h => h) (by rfl) (fun w hSw => by (try dsimp only at hSw); exact ld_btR rfl rfl (HX6.out _ hSw).1 (info_bt ⟨ep, ln, (f0, f1), (t0, t1), L⟩ q n cap)) hHeld ?_
    go_frame
    refine takeH (i := 25) (some 61) rfl rfl (by kernel_rfl) (by kernel_rfl) (by kernel_rfl) (fun _ _ _ h => h) (by rfl) (fun w hSw => by (try dsimp only at hSw); exact bd_run rfl built_bt0 (by simp) _) hHeld ?_
    go_frame
    refine wpAnyH_ready (rs := [23]) (by kernel_rfl) (by simp) (AllReadyH.cons rfl (fun K hK => ?_) AllReadyH.nil)
    go_simp
    refine (gsame17_any ⟨ep, ln, (f0, f1), (t0, t1), L⟩ zBt (.slice qx n cx) (.slice none 0 0) _ (HX6.out _ hHeld).2.2.2.1 (er0 _)).mono ?_
    rintro e V7 ⟨⟨z7, rfl, hz7⟩, v7⟩
    show K _ _
    refine hK.out _ _ (ab_trans hHeld v7) (fun hHeld => ?_)
    clear hK K
    refine wpAnyH_ready (rs := [26]) (by kernel_rfl) (by simp) (AllReadyH.cons rfl (fun K hK => ?_) AllReadyH.nil)
    go_simp
    refine (rsame17_any ⟨ep, ln, (f0, f1), (t0, t1), L⟩ zBt (.slice q n cap) (.slice none 0 0) _ (HX6.out _ hHeld).2.2.1 (er0 _)).mono ?_
    rintro e V8 ⟨⟨z8, rfl, hz8⟩, v8⟩
    obtain rfl : z7 = z8 := by
      cases z7 <;> cases z8 <;> first | rfl | exact absurd (hz7.2 (hz8.1 rfl)) (by decide) | exact absurd (hz8.2 (hz7.1 rfl)) (by decide)
    show K _ _
    refine hK.out _ _ (ab_trans hHeld v8) (fun hHeld => ?_)
    clear hK K hz7 hz8
    have hzz : (z7 != z7) = false := by cases z7 <;> rfl
    refine takeH (i := 27) (some 63) rfl rfl (by kernel_rfl) (by kernel_rfl) (by kernel_rfl) (fun _ _ _ h => h) (by rfl) (fun w hSw => by (try dsimp only at hSw); go_simp; try rfl) hHeld ?_
    go_frame
    refine takeH (i := 28) (some 64) rfl rfl (by kernel_rfl) (by kernel_rfl) (by kernel_rfl) (fun _ _ _ h => h) (by rfl) (fun w hSw => by (try dsimp only at hSw); go_simp; try rfl) hHeld ?_
    go_frame
    refine wpAnyH_done (by kernel_rfl) ?_ _
    obtain ⟨hXb, hXx, hLb, hLx, hw8⟩ := HX6.out _ hHeld
    have hN8 := HN6.out _ hHeld
    clear HX HV
    have HX8 : Hid (∀ V, Below w.heap.size w V → Below W6.heap.size W6 V → V.cell? ⟨w.heap.size, 6, none⟩ = some (.slice q n cap) ∧ V.cell? ⟨W1.heap.size, 6, none⟩ = some (.slice qx n cx) ∧ ER EE V (.slice q n cap) L ∧ ER EE V (.slice qx n cx) L) := fun V hV hV6 => ⟨(HX6.out V hV6).1.at rfl, (HX6.out V hV6).2.1.at rfl, (HX6.out V hV6).2.2.1, (HX6.out V hV6).2.2.2.1⟩
    have e00 := q00
    have e20 := q20
    have e22 := q22
    by_cases hok : GbOK ⟨k, f, t, ns, os, es⟩ LN
    · obtain ⟨⟨e0, l0, ⟨g0, g1⟩, ⟨h0, h1⟩, en⟩, hbb⟩ : ∃ b, b = ntB ⟨k, f, t, ns, os, es⟩ LN := ⟨_, rfl⟩
      have hen : en = LN := HB0.out _ hbb
      subst hen
      have HB2 : ∀ V, Below w.heap.size w V → Calls Tryz.prog 14 #[.agg #[.int .i64 k, .int .i64 f, .int .i64 t, .slice qn nn cn, .slice qo no co, .slice qe ne ce]] V fun e w' => ∃ q5 c5, e = .returned (.tuple #[.agg #[.int .i64 e0, .int .i64 l0, .int .i64 g0, .int .i64 g1, .int .i64 h0, .int .i64 h1, .slice q5 ne c5], .nilIface]) ∧ EO EE 79 w' V.heap.size (.slice q5 ne c5) en ∧ Below V.heap.size V w' := fun V hV => (HBa.out V hV).mono (fun e w' ⟨h8, h9⟩ => by
        rcases h8 with ⟨_, v5, h5, h6⟩ | ⟨h5, _⟩
        · obtain ⟨q5, c5, e5⟩ := h6.form
          rw [hle] at e5
          subst e5
          rw [← hbb] at h5
          exact ⟨q5, c5, h5, h6, h9⟩
        · exact absurd hok h5)
      have HR2 : ∀ V, Below w.heap.size w V → Calls Tryz.prog 15 #[.agg #[.int .i64 k, .int .i64 f, .int .i64 t, .slice qn nn cn, .slice qo no co, .slice qe ne ce]] V fun e w' => e = .returned (.tuple #[.agg #[.int .i64 e0, .int .i64 l0, .int .i64 g0, .int .i64 g1, .int .i64 h0, .int .i64 h1, .slice qe ne ce], .bool true]) ∧ Below V.heap.size V w' := fun V hV => (HRb.out V hV).mono (fun e w' ⟨h8, h9⟩ => by
        rcases h8 with ⟨_, h5⟩ | ⟨h5, _⟩
        · rw [← hbb] at h5
          exact ⟨h5, h9⟩
        · exact absurd hok h5)
      clear HBa HRb hok hbb e20 e22 HB0
      go_upto_region 10 with (first
        | (refine ld_blk rfl rfl hN8 rfl _ Tryz.underlying36 rfl info_ntA ?_)
        | (go_at_call 14; refine (HB2 _ hw8).mono ?_; rintro e Y1 ⟨q5, c5, rfl, hO5, y1⟩)
        | (refine al_blk rfl rfl (btA zBt (.slice none 0 0)) (zero_bt _) ?_; intro Y2 ey hY2 y2; clear ey)
        | (refine st_blk rfl rfl hY2 rfl (vs := #[.int .i64 e0, .int .i64 l0, .int .i64 g0, .int .i64 g1, .int .i64 h0, .int .i64 h1, .slice q5 ne c5]) rfl (info_bt ⟨e0, l0, (g0, g1), (h0, h1), en⟩ q5 ne c5) rfl (bt_one ⟨e0, l0, (g0, g1), (h0, h1), en⟩ q5 ne c5) ?_; intro Y3 hY3 C3))
      have y13 := ab_chg y2 C3 (Nat.le_refl _)
      have y83 := ab_trans y1 y13
      have hw3 := ab_trans hw8 y83
      have hN3 := hN8.keep y83
      have hO3 := hO5.keep y13
      have hH3 := ab_trans hHeld y83
      clear hY2 y2 C3 HB2 y1 hO5 hN8 y13
      go_upto_region 11 with (first
        | (refine ld_blk rfl rfl hN3 rfl _ Tryz.underlying36 rfl info_ntA ?_)
        | (go_at_call 15; refine (HR2 _ hw3).mono ?_; rintro e Y4 ⟨rfl, y4⟩)
        | (refine al_blk rfl rfl (btA zBt (.slice none 0 0)) (zero_bt _) ?_; intro Y5 ey hY5 y5; clear ey)
        | (refine st_blk rfl rfl hY5 rfl (vs := #[.int .i64 e0, .int .i64 l0, .int .i64 g0, .int .i64 g1, .int .i64 h0, .int .i64 h1, .slice qe ne ce]) rfl (info_bt ⟨e0, l0, (g0, g1), (h0, h1), en⟩ qe ne ce) rfl (bt_one ⟨e0, l0, (g0, g1), (h0, h1), en⟩ qe ne ce) ?_; intro Y6 hY6 C6))
      have y36 := ab_trans y4 (ab_chg y5 C6 (Nat.le_refl _))
      have hw6 := ab_trans hw3 y36
      have hY36 := hY3.keep y36
      have hO6 := hO3.keep y36
      have hH6 := ab_trans hH3 y36
      have HSm := rsame17_yes ⟨e0, l0, (g0, g1), (h0, h1), en⟩ (.slice q5 ne c5) (.slice qe ne ce) Y6 hO6.er (HVe.out _ hw6)
      unfold btA at HSm
      try dsimp only at HSm
      clear hY5 y5 C6 HR2 y4 hN3 hO3 y36 hY3
      go_wp2_with (first
        | (refine ld_blk rfl rfl hY36 rfl _ Tryz.underlying33 rfl (info_bt ⟨e0, l0, (g0, g1), (h0, h1), en⟩ q5 ne c5) ?_)
        | (refine ld_blk rfl rfl hY6 rfl _ Tryz.underlying33 rfl (info_bt ⟨e0, l0, (g0, g1), (h0, h1), en⟩ qe ne ce) ?_)
        | (go_at_call 13; refine HSm.mono ?_; rintro e Y7 ⟨rfl, y7⟩; obtain ⟨x6, z6, hq7, hx7⟩ := HX8.out _ (ab_trans hw6 y7) (ab_trans hH6 y7))
        | (go_at_call 16; refine (sents_yes _ _ L L _ hx7 hq7 (entQ_refl L)).mono ?_; rintro e Y8 ⟨rfl, y8⟩))
      go_ret
      exact ⟨rfl, ab_trans hw6 (ab_trans y7 y8)⟩
    · have HB2 : ∀ V, Below w.heap.size w V → Calls Tryz.prog 14 #[.agg #[.int .i64 k, .int .i64 f, .int .i64 t, .slice qn nn cn, .slice qo no co, .slice qe ne ce]] V fun e w' => e = .returned (.tuple #[.agg #[.int .i64 0, .int .i64 0, .int .i64 0, .int .i64 0, .int .i64 0, .int .i64 0, .slice none 0 0], Err 2]) ∧ Below V.heap.size V w' := fun V hV => (HBa.out V hV).mono (fun e w' ⟨h8, h9⟩ => by
        rcases h8 with ⟨h5, _⟩ | ⟨_, h5⟩
        · exact absurd h5 hok
        · exact ⟨h5, h9⟩)
      have HR2 : ∀ V, Below w.heap.size w V → Calls Tryz.prog 15 #[.agg #[.int .i64 k, .int .i64 f, .int .i64 t, .slice qn nn cn, .slice qo no co, .slice qe ne ce]] V fun e w' => e = .returned (.tuple #[.agg #[.int .i64 0, .int .i64 0, .int .i64 0, .int .i64 0, .int .i64 0, .int .i64 0, .slice none 0 0], .bool false]) ∧ Below V.heap.size V w' := fun V hV => (HRb.out V hV).mono (fun e w' ⟨h8, h9⟩ => by
        rcases h8 with ⟨h5, _⟩ | ⟨_, h5⟩
        · exact absurd h5 hok
        · exact ⟨h5, h9⟩)
      clear HBa HRb hok e00 HB0
      go_upto_region 10 with (first
        | (refine ld_blk rfl rfl hN8 rfl _ Tryz.underlying36 rfl info_ntA ?_)
        | (go_at_call 14; refine (HB2 _ hw8).mono ?_; rintro e Y1 ⟨rfl, y1⟩)
        | (refine al_blk rfl rfl (btA zBt (.slice none 0 0)) (zero_bt _) ?_; intro Y2 ey hY2 y2; clear ey)
        | (refine st_blk rfl rfl hY2 rfl (vs := #[.int .i64 0, .int .i64 0, .int .i64 0, .int .i64 0, .int .i64 0, .int .i64 0, .slice none 0 0]) rfl (info_bt zBt none 0 0) rfl (bt_one zBt none 0 0) ?_; intro Y3 hY3 C3))
      have y13 := ab_chg y2 C3 (Nat.le_refl _)
      have y83 := ab_trans y1 y13
      have hw3 := ab_trans hw8 y83
      have hN3 := hN8.keep y83
      have hH3 := ab_trans hHeld y83
      clear hY2 y2 C3 HB2 y1 hN8 y13
      go_upto_region 11 with (first
        | (refine ld_blk rfl rfl hN3 rfl _ Tryz.underlying36 rfl info_ntA ?_)
        | (go_at_call 15; refine (HR2 _ hw3).mono ?_; rintro e Y4 ⟨rfl, y4⟩)
        | (refine al_blk rfl rfl (btA zBt (.slice none 0 0)) (zero_bt _) ?_; intro Y5 ey hY5 y5; clear ey)
        | (refine st_blk rfl rfl hY5 rfl (vs := #[.int .i64 0, .int .i64 0, .int .i64 0, .int .i64 0, .int .i64 0, .int .i64 0, .slice none 0 0]) rfl (info_bt zBt none 0 0) rfl (bt_one zBt none 0 0) ?_; intro Y6 hY6 C6))
      have y36 := ab_trans y4 (ab_chg y5 C6 (Nat.le_refl _))
      have hw6 := ab_trans hw3 y36
      have hY36 := hY3.keep y36
      have hH6 := ab_trans hH3 y36
      have HSm : Calls Tryz.prog 13 #[.agg #[.int .i64 0, .int .i64 0, .int .i64 0, .int .i64 0, .int .i64 0, .int .i64 0, .slice none 0 0], .agg #[.int .i64 0, .int .i64 0, .int .i64 0, .int .i64 0, .int .i64 0, .int .i64 0, .slice none 0 0]] Y6 fun e w' => e = .returned (.bool true) ∧ Below Y6.heap.size Y6 w' := rsame17_yes zBt (.slice none 0 0) (.slice none 0 0) Y6 (er0 _) (er0 _)
      clear hY5 y5 C6 HR2 y4 hN3 y36 hY3
      go_wp2_with (first
        | (refine ld_blk rfl rfl hY36 rfl _ Tryz.underlying33 rfl (info_bt zBt none 0 0) ?_)
        | (refine ld_blk rfl rfl hY6 rfl _ Tryz.underlying33 rfl (info_bt zBt none 0 0) ?_)
        | (go_at_call 13; refine HSm.mono ?_; rintro e Y7 ⟨rfl, y7⟩; obtain ⟨x6, z6, hq7, hx7⟩ := HX8.out _ (ab_trans hw6 y7) (ab_trans hH6 y7))
        | (go_at_call 16; refine (sents_yes _ _ L L _ hx7 hq7 (entQ_refl L)).mono ?_; rintro e Y8 ⟨rfl, y8⟩))
      go_ret
      exact ⟨rfl, ab_trans hw6 (ab_trans y7 y8)⟩
  · as_aux_lemma =>
    have HC : ∀ V, Below w.heap.size w V → ER EE V (.slice qx n cx) L → Calls Tryz.prog 7 #[.agg #[.int .i64 ep, .int .i64 ln, .int .i64 f0, .int .i64 f1, .int .i64 t0, .int .i64 t1, .slice qx n cx]] V fun e w' => e = .returned (Err 2) ∧ Below V.heap.size V w' := fun V hV hX => (gcheck_any ⟨ep, ln, (f0, f1), (t0, t1), L⟩ (.slice qx n cx) V hX).mono (fun e w' ⟨h8, h9⟩ => ⟨by rcases h8 with ⟨h8, _⟩ | ⟨_, h8⟩ <;> first | exact h8 | exact absurd h8 hgk, h9⟩)
    have HG : ∀ V, Below w.heap.size w V → Calls Tryz.prog 8 #[.agg #[.int .i64 ep, .int .i64 ln, .int .i64 f0, .int .i64 f1, .int .i64 t0, .int .i64 t1, .slice q n cap]] V fun e w' => e = .returned (.bool false) ∧ Below V.heap.size V w' := fun V hV => (rgood17_any ⟨ep, ln, (f0, f1), (t0, t1), L⟩ (.slice q n cap) V (HV.out V hV)).mono (fun e w' ⟨h8, h9⟩ => ⟨by rcases h8 with ⟨h8, _⟩ | ⟨_, h8⟩ <;> first | exact h8 | exact absurd h8 hgk, h9⟩)
    clear hgk
    refine wp_region_held_drew (S := fun w' => Below W6.heap.size W6 w') (by kernel_rfl) (ab_drew (Below.refl _ _)) (fun hHeld => ?_)
    refine takeH (i := 0) (some 36) rfl rfl (by kernel_rfl) (by kernel_rfl) (by kernel_rfl) (fun _ _ _ h => h) (by rfl) (fun w hSw => by (try dsimp only at hSw); exact ld_btR rfl rfl (HX6.out _ hSw).2.1 (info_bt ⟨ep, ln, (f0, f1), (t0, t1), L⟩ qx n cx)) hHeld ?_
    go_frame
    refine takeH (i := 3) (some 39) rfl rfl (by kernel_rfl) (by kernel_rfl) (by kernel_rfl) (fun _ _ _ h => h) (by rfl) (fun w hSw => by (try dsimp only at hSw); exact ld_btR rfl rfl (HX6.out _ hSw).1 (info_bt ⟨ep, ln, (f0, f1), (t0, t1), L⟩ q n cap)) hHeld ?_
    go_frame
    refine wpAnyH_ready (rs := [1]) (by kernel_rfl) (by simp) (AllReadyH.cons rfl (fun K hK => ?_) AllReadyH.nil)
    go_simp
    refine (HC _ (HX6.out _ hHeld).2.2.2.2 (HX6.out _ hHeld).2.2.2.1).mono ?_
    rintro e V1 ⟨rfl, v1⟩
    show K _ _
    refine hK.out _ _ (ab_trans hHeld v1) (fun hHeld => ?_)
    clear hK K
    refine takeH (i := 2) (some 38) rfl rfl (by kernel_rfl) (by kernel_rfl) (by kernel_rfl) (fun _ _ _ h => h) (by rfl) (fun w hSw => by (try dsimp only at hSw); (have e0 := q20; go_simp; try rfl)) hHeld ?_
    go_frame
    refine wpAnyH_ready (rs := [4]) (by kernel_rfl) (by simp) (AllReadyH.cons rfl (fun K hK => ?_) AllReadyH.nil)
    go_simp
    refine (HG _ (HX6.out _ hHeld).2.2.2.2).mono ?_
    rintro e V2 ⟨rfl, v2⟩
    show K _ _
    refine hK.out _ _ (ab_trans hHeld v2) (fun hHeld => ?_)
    clear hK K HC HG
    refine takeH (i := 5) (some 41) rfl rfl (by kernel_rfl) (by kernel_rfl) (by kernel_rfl) (fun _ _ _ h => h) (by rfl) (fun w hSw => by (try dsimp only at hSw); go_simp; try rfl) hHeld ?_
    go_frame
    refine takeH (i := 6) (some 42) rfl rfl (by kernel_rfl) (by kernel_rfl) (by kernel_rfl) (fun _ _ _ h => h) (by rfl) (fun w hSw => by (try dsimp only at hSw); go_simp; try rfl) hHeld ?_
    go_frame
    refine takeH (i := 7) (some 43) rfl rfl (by kernel_rfl) (by kernel_rfl) (by kernel_rfl) (fun _ _ _ h => h) (by rfl) (fun w hSw => by (try dsimp only at hSw); exact ld_btR rfl rfl (HX6.out _ hSw).2.1 (info_bt ⟨ep, ln, (f0, f1), (t0, t1), L⟩ qx n cx)) hHeld ?_
    go_frame
    refine takeH (i := 9) (some 45) rfl rfl (by kernel_rfl) (by kernel_rfl) (by kernel_rfl) (fun _ _ _ h => h) (by rfl) (fun w hSw => by (try dsimp only at hSw); exact ld_btR rfl rfl (HX6.out _ hSw).1 (info_bt ⟨ep, ln, (f0, f1), (t0, t1), L⟩ q n cap)) hHeld ?_
    go_frame
    refine wpAnyH_ready (rs := [8]) (by kernel_rfl) (by simp) (AllReadyH.cons rfl (fun K hK => ?_) AllReadyH.nil)
    go_simp
    refine (gnote_any 3 4 ⟨ep, ln, (f0, f1), (t0, t1), L⟩ (.slice qx n cx) _ (HX6.out _ hHeld).2.2.2.1 (by show L.length ≤ 100000; omega)).mono ?_
    rintro e V3 ⟨⟨vn3, ve3, rfl, hI3, hO3⟩, v3⟩
    show K _ _
    refine hK.out _ _ (ab_trans hHeld v3) (fun hHeld => ?_)
    clear hK K
    refine wpAnyH_ready (rs := [10]) (by kernel_rfl) (by simp) (AllReadyH.cons rfl (fun K hK => ?_) AllReadyH.nil)
    go_simp
    refine (rnote17_any 3 4 ⟨ep, ln, (f0, f1), (t0, t1), L⟩ (.slice q n cap) _ (HX6.out _ hHeld).2.2.1).mono ?_
    rintro e V4 ⟨⟨vn4, rfl, hI4⟩, v4⟩
    show K _ _
    have HS5 := rsame_any (nB ep ln f0 f1 t0 t1 L) (nB ep ln f0 f1 t0 t1 L) vn3 (.slice none 0 0) ve3 vn4 (.slice none 0 0) (.slice q n cap) V4 (hI3.is.keep v4) (SR.nil _ _ _) (er_sr76 (hO3.keep v4).er) hI4.is (SR.nil _ _ _) (er_sr76 ((HX6.out _ (ab_trans hHeld v4)).2.2.1))
    refine hK.out _ _ (ab_trans hHeld v4) (fun hHeld => ?_)
    clear hK K
    refine wpAnyH_ready (rs := [11]) (by kernel_rfl) (by simp) (AllReadyH.cons rfl (fun K hK => ?_) AllReadyH.nil)
    go_simp
    refine HS5.mono ?_
    rintro e V5 ⟨⟨z5, rfl, hz5⟩, v5⟩
    obtain rfl := hz5.2 (SameN.refl _)
    show K _ _
    refine hK.out _ _ (ab_trans hHeld v5) (fun hHeld => ?_)
    clear hK K HS5 hz5 hI3 hO3 hI4
    refine takeH (i := 12) (some 48) rfl rfl (by kernel_rfl) (by kernel_rfl) (by kernel_rfl) (fun _ _ _ h => h) (by rfl) (fun w hSw => by (try dsimp only at hSw); go_simp; try rfl) hHeld ?_
    go_frame
    refine takeH (i := 13) (some 49) rfl rfl (by kernel_rfl) (by kernel_rfl) (by kernel_rfl) (fun _ _ _ h => h) (by rfl) (fun w hSw => by (try dsimp only at hSw); go_simp; try rfl) hHeld ?_
    go_frame
    refine takeH (i := 14) (some 50) rfl rfl (by kernel_rfl) (by kernel_rfl) (by kernel_rfl) (fun _ _ _ h => h) (by rfl) (fun w hSw => by (try dsimp only at hSw); go_simp; try rfl) hHeld ?_
    go_frame
    refine takeH (i := 15) (some 51) rfl rfl (by kernel_rfl) (by kernel_rfl) (by kernel_rfl) (fun _ _ _ h => h) (by rfl) (fun w hSw => by (try dsimp only at hSw); exact ld_btR rfl rfl (HX6.out _ hSw).2.1 (info_bt ⟨ep, ln, (f0, f1), (t0, t1), L⟩ qx n cx)) hHeld ?_
    go_frame
    refine takeH (i := 16) (some 52) rfl rfl (by kernel_rfl) (by kernel_rfl) (by kernel_rfl) (fun _ _ _ h => h) (by rfl) (fun w hSw => by (try dsimp only at hSw); exact ld_btR rfl rfl (HX6.out _ hSw).1 (info_bt ⟨ep, ln, (f0, f1), (t0, t1), L⟩ q n cap)) hHeld ?_
    go_frame
    refine wpAnyH_ready (rs := [17]) (by kernel_rfl) (by simp) (AllReadyH.cons rfl (fun K hK => ?_) AllReadyH.nil)
    go_simp
    refine (gsame17_any ⟨ep, ln, (f0, f1), (t0, t1), L⟩ ⟨ep, ln, (f0, f1), (t0, t1), L⟩ (.slice qx n cx) (.slice q n cap) _ (HX6.out _ hHeld).2.2.2.1 (HX6.out _ hHeld).2.2.1).mono ?_
    rintro e V6 ⟨⟨z6, rfl, hz6⟩, v6⟩
    obtain rfl := hz6.2 ⟨rfl, rfl, rfl, rfl, rfl, rfl, .refl _ _⟩
    show K _ _
    refine hK.out _ _ (ab_trans hHeld v6) (fun hHeld => ?_)
    clear hK K hz6
    refine takeH (i := 18) (some 54) rfl rfl (by kernel_rfl) (by kernel_rfl) (by kernel_rfl) (fun _ _ _ h => h) (by rfl) (fun w hSw => by (try dsimp only at hSw); go_simp; try rfl) hHeld ?_
    go_frame
    refine takeH (i := 19) (some 55) rfl rfl (by kernel_rfl) (by kernel_rfl) (by kernel_rfl) (fun _ _ _ h => h) (by rfl) (fun w hSw => by (try dsimp only at hSw); go_simp; try rfl) hHeld ?_
    go_frame
    refine takeH (i := 20) (some 56) rfl rfl (by kernel_rfl) (by kernel_rfl) (by kernel_rfl) (fun _ _ _ h => h) (by rfl) (fun w hSw => by (try dsimp only at hSw); go_simp; try rfl) hHeld ?_
    go_frame
    refine takeH (i := 21) (some 57) rfl rfl (by kernel_rfl) (by kernel_rfl) (by kernel_rfl) (fun _ _ _ h => h) (by rfl) (fun w hSw => by (try dsimp only at hSw); exact ld_btR rfl rfl (HX6.out _ hSw).2.1 (info_bt ⟨ep, ln, (f0, f1), (t0, t1), L⟩ qx n cx)) hHeld ?_
    go_frame
    refine takeH (i := 22) (some 58) rfl rfl (by kernel_rfl) (by kernel_rfl) (by kernel_rfl) (fun _ _ _ h => h) (by rfl) (fun w hSw => by (try dsimp only at hSw); exact bd_run rfl built_bt0 (by simp) _) hHeld ?_
    go_frame
    refine takeH (i := 24) (some 60) rfl rfl (by kernel_rfl) (by kernel_rfl) (by kernel_rfl) (fun _ _ _ h => h) (by rfl) (fun w hSw => by (try dsimp only at hSw); exact ld_btR rfl rfl (HX6.out _ hSw).1 (info_bt ⟨ep, ln, (f0, f1), (t0, t1), L⟩ q n cap)) hHeld ?_
    go_frame
    refine takeH (i := 25) (some 61) rfl rfl (by kernel_rfl) (by kernel_rfl) (by kernel_rfl) (fun _ _ _ h => h) (by rfl) (fun w hSw => by (try dsimp only at hSw); exact bd_run rfl built_bt0 (by simp) _) hHeld ?_
    go_frame
    refine wpAnyH_ready (rs := [23]) (by kernel_rfl) (by simp) (AllReadyH.cons rfl (fun K hK => ?_) AllReadyH.nil)
    go_simp
    refine (gsame17_any ⟨ep, ln, (f0, f1), (t0, t1), L⟩ zBt (.slice qx n cx) (.slice none 0 0) _ (HX6.out _ hHeld).2.2.2.1 (er0 _)).mono ?_
    rintro e V7 ⟨⟨z7, rfl, hz7⟩, v7⟩
    show K _ _
    refine hK.out _ _ (ab_trans hHeld v7) (fun hHeld => ?_)
    clear hK K
    refine wpAnyH_ready (rs := [26]) (by kernel_rfl) (by simp) (AllReadyH.cons rfl (fun K hK => ?_) AllReadyH.nil)
    go_simp
    refine (rsame17_any ⟨ep, ln, (f0, f1), (t0, t1), L⟩ zBt (.slice q n cap) (.slice none 0 0) _ (HX6.out _ hHeld).2.2.1 (er0 _)).mono ?_
    rintro e V8 ⟨⟨z8, rfl, hz8⟩, v8⟩
    obtain rfl : z7 = z8 := by
      cases z7 <;> cases z8 <;> first | rfl | exact absurd (hz7.2 (hz8.1 rfl)) (by decide) | exact absurd (hz8.2 (hz7.1 rfl)) (by decide)
    show K _ _
    refine hK.out _ _ (ab_trans hHeld v8) (fun hHeld => ?_)
    clear hK K hz7 hz8
    have hzz : (z7 != z7) = false := by cases z7 <;> rfl
    refine takeH (i := 27) (some 63) rfl rfl (by kernel_rfl) (by kernel_rfl) (by kernel_rfl) (fun _ _ _ h => h) (by rfl) (fun w hSw => by (try dsimp only at hSw); go_simp; try rfl) hHeld ?_
    go_frame
    refine takeH (i := 28) (some 64) rfl rfl (by kernel_rfl) (by kernel_rfl) (by kernel_rfl) (fun _ _ _ h => h) (by rfl) (fun w hSw => by (try dsimp only at hSw); go_simp; try rfl) hHeld ?_
    go_frame
    refine wpAnyH_done (by kernel_rfl) ?_ _
    obtain ⟨hXb, hXx, hLb, hLx, hw8⟩ := HX6.out _ hHeld
    have hN8 := HN6.out _ hHeld
    clear HX HV
    have HX8 : Hid (∀ V, Below w.heap.size w V → Below W6.heap.size W6 V → V.cell? ⟨w.heap.size, 6, none⟩ = some (.slice q n cap) ∧ V.cell? ⟨W1.heap.size, 6, none⟩ = some (.slice qx n cx) ∧ ER EE V (.slice q n cap) L ∧ ER EE V (.slice qx n cx) L) := fun V hV hV6 => ⟨(HX6.out V hV6).1.at rfl, (HX6.out V hV6).2.1.at rfl, (HX6.out V hV6).2.2.1, (HX6.out V hV6).2.2.2.1⟩
    have e00 := q00
    have e20 := q20
    have e22 := q22
    by_cases hok : GbOK ⟨k, f, t, ns, os, es⟩ LN
    · obtain ⟨⟨e0, l0, ⟨g0, g1⟩, ⟨h0, h1⟩, en⟩, hbb⟩ : ∃ b, b = ntB ⟨k, f, t, ns, os, es⟩ LN := ⟨_, rfl⟩
      have hen : en = LN := HB0.out _ hbb
      subst hen
      have HB2 : ∀ V, Below w.heap.size w V → Calls Tryz.prog 14 #[.agg #[.int .i64 k, .int .i64 f, .int .i64 t, .slice qn nn cn, .slice qo no co, .slice qe ne ce]] V fun e w' => ∃ q5 c5, e = .returned (.tuple #[.agg #[.int .i64 e0, .int .i64 l0, .int .i64 g0, .int .i64 g1, .int .i64 h0, .int .i64 h1, .slice q5 ne c5], .nilIface]) ∧ EO EE 79 w' V.heap.size (.slice q5 ne c5) en ∧ Below V.heap.size V w' := fun V hV => (HBa.out V hV).mono (fun e w' ⟨h8, h9⟩ => by
        rcases h8 with ⟨_, v5, h5, h6⟩ | ⟨h5, _⟩
        · obtain ⟨q5, c5, e5⟩ := h6.form
          rw [hle] at e5
          subst e5
          rw [← hbb] at h5
          exact ⟨q5, c5, h5, h6, h9⟩
        · exact absurd hok h5)
      have HR2 : ∀ V, Below w.heap.size w V → Calls Tryz.prog 15 #[.agg #[.int .i64 k, .int .i64 f, .int .i64 t, .slice qn nn cn, .slice qo no co, .slice qe ne ce]] V fun e w' => e = .returned (.tuple #[.agg #[.int .i64 e0, .int .i64 l0, .int .i64 g0, .int .i64 g1, .int .i64 h0, .int .i64 h1, .slice qe ne ce], .bool true]) ∧ Below V.heap.size V w' := fun V hV => (HRb.out V hV).mono (fun e w' ⟨h8, h9⟩ => by
        rcases h8 with ⟨_, h5⟩ | ⟨h5, _⟩
        · rw [← hbb] at h5
          exact ⟨h5, h9⟩
        · exact absurd hok h5)
      clear HBa HRb hok hbb e20 e22 HB0
      go_upto_region 10 with (first
        | (refine ld_blk rfl rfl hN8 rfl _ Tryz.underlying36 rfl info_ntA ?_)
        | (go_at_call 14; refine (HB2 _ hw8).mono ?_; rintro e Y1 ⟨q5, c5, rfl, hO5, y1⟩)
        | (refine al_blk rfl rfl (btA zBt (.slice none 0 0)) (zero_bt _) ?_; intro Y2 ey hY2 y2; clear ey)
        | (refine st_blk rfl rfl hY2 rfl (vs := #[.int .i64 e0, .int .i64 l0, .int .i64 g0, .int .i64 g1, .int .i64 h0, .int .i64 h1, .slice q5 ne c5]) rfl (info_bt ⟨e0, l0, (g0, g1), (h0, h1), en⟩ q5 ne c5) rfl (bt_one ⟨e0, l0, (g0, g1), (h0, h1), en⟩ q5 ne c5) ?_; intro Y3 hY3 C3))
      have y13 := ab_chg y2 C3 (Nat.le_refl _)
      have y83 := ab_trans y1 y13
      have hw3 := ab_trans hw8 y83
      have hN3 := hN8.keep y83
      have hO3 := hO5.keep y13
      have hH3 := ab_trans hHeld y83
      clear hY2 y2 C3 HB2 y1 hO5 hN8 y13
      go_upto_region 11 with (first
        | (refine ld_blk rfl rfl hN3 rfl _ Tryz.underlying36 rfl info_ntA ?_)
        | (go_at_call 15; refine (HR2 _ hw3).mono ?_; rintro e Y4 ⟨rfl, y4⟩)
        | (refine al_blk rfl rfl (btA zBt (.slice none 0 0)) (zero_bt _) ?_; intro Y5 ey hY5 y5; clear ey)
        | (refine st_blk rfl rfl hY5 rfl (vs := #[.int .i64 e0, .int .i64 l0, .int .i64 g0, .int .i64 g1, .int .i64 h0, .int .i64 h1, .slice qe ne ce]) rfl (info_bt ⟨e0, l0, (g0, g1), (h0, h1), en⟩ qe ne ce) rfl (bt_one ⟨e0, l0, (g0, g1), (h0, h1), en⟩ qe ne ce) ?_; intro Y6 hY6 C6))
      have y36 := ab_trans y4 (ab_chg y5 C6 (Nat.le_refl _))
      have hw6 := ab_trans hw3 y36
      have hY36 := hY3.keep y36
      have hO6 := hO3.keep y36
      have hH6 := ab_trans hH3 y36
      have HSm := rsame17_yes ⟨e0, l0, (g0, g1), (h0, h1), en⟩ (.slice q5 ne c5) (.slice qe ne ce) Y6 hO6.er (HVe.out _ hw6)
      unfold btA at HSm
      try dsimp only at HSm
      clear hY5 y5 C6 HR2 y4 hN3 hO3 y36 hY3
      go_wp2_with (first
        | (refine ld_blk rfl rfl hY36 rfl _ Tryz.underlying33 rfl (info_bt ⟨e0, l0, (g0, g1), (h0, h1), en⟩ q5 ne c5) ?_)
        | (refine ld_blk rfl rfl hY6 rfl _ Tryz.underlying33 rfl (info_bt ⟨e0, l0, (g0, g1), (h0, h1), en⟩ qe ne ce) ?_)
        | (go_at_call 13; refine HSm.mono ?_; rintro e Y7 ⟨rfl, y7⟩; obtain ⟨x6, z6, hq7, hx7⟩ := HX8.out _ (ab_trans hw6 y7) (ab_trans hH6 y7))
        | (go_at_call 16; refine (sents_yes _ _ L L _ hx7 hq7 (entQ_refl L)).mono ?_; rintro e Y8 ⟨rfl, y8⟩))
      go_ret
      exact ⟨rfl, ab_trans hw6 (ab_trans y7 y8)⟩
    · have HB2 : ∀ V, Below w.heap.size w V → Calls Tryz.prog 14 #[.agg #[.int .i64 k, .int .i64 f, .int .i64 t, .slice qn nn cn, .slice qo no co, .slice qe ne ce]] V fun e w' => e = .returned (.tuple #[.agg #[.int .i64 0, .int .i64 0, .int .i64 0, .int .i64 0, .int .i64 0, .int .i64 0, .slice none 0 0], Err 2]) ∧ Below V.heap.size V w' := fun V hV => (HBa.out V hV).mono (fun e w' ⟨h8, h9⟩ => by
        rcases h8 with ⟨h5, _⟩ | ⟨_, h5⟩
        · exact absurd h5 hok
        · exact ⟨h5, h9⟩)
      have HR2 : ∀ V, Below w.heap.size w V → Calls Tryz.prog 15 #[.agg #[.int .i64 k, .int .i64 f, .int .i64 t, .slice qn nn cn, .slice qo no co, .slice qe ne ce]] V fun e w' => e = .returned (.tuple #[.agg #[.int .i64 0, .int .i64 0, .int .i64 0, .int .i64 0, .int .i64 0, .int .i64 0, .slice none 0 0], .bool false]) ∧ Below V.heap.size V w' := fun V hV => (HRb.out V hV).mono (fun e w' ⟨h8, h9⟩ => by
        rcases h8 with ⟨h5, _⟩ | ⟨_, h5⟩
        · exact absurd h5 hok
        · exact ⟨h5, h9⟩)
      clear HBa HRb hok e00 HB0
      go_upto_region 10 with (first
        | (refine ld_blk rfl rfl hN8 rfl _ Tryz.underlying36 rfl info_ntA ?_)
        | (go_at_call 14; refine (HB2 _ hw8).mono ?_; rintro e Y1 ⟨rfl, y1⟩)
        | (refine al_blk rfl rfl (btA zBt (.slice none 0 0)) (zero_bt _) ?_; intro Y2 ey hY2 y2; clear ey)
        | (refine st_blk rfl rfl hY2 rfl (vs := #[.int .i64 0, .int .i64 0, .int .i64 0, .int .i64 0, .int .i64 0, .int .i64 0, .slice none 0 0]) rfl (info_bt zBt none 0 0) rfl (bt_one zBt none 0 0) ?_; intro Y3 hY3 C3))
      have y13 := ab_chg y2 C3 (Nat.le_refl _)
      have y83 := ab_trans y1 y13
      have hw3 := ab_trans hw8 y83
      have hN3 := hN8.keep y83
      have hH3 := ab_trans hHeld y83
      clear hY2 y2 C3 HB2 y1 hN8 y13
      go_upto_region 11 with (first
        | (refine ld_blk rfl rfl hN3 rfl _ Tryz.underlying36 rfl info_ntA ?_)
        | (go_at_call 15; refine (HR2 _ hw3).mono ?_; rintro e Y4 ⟨rfl, y4⟩)
        | (refine al_blk rfl rfl (btA zBt (.slice none 0 0)) (zero_bt _) ?_; intro Y5 ey hY5 y5; clear ey)
        | (refine st_blk rfl rfl hY5 rfl (vs := #[.int .i64 0, .int .i64 0, .int .i64 0, .int .i64 0, .int .i64 0, .int .i64 0, .slice none 0 0]) rfl (info_bt zBt none 0 0) rfl (bt_one zBt none 0 0) ?_; intro Y6 hY6 C6))
      have y36 := ab_trans y4 (ab_chg y5 C6 (Nat.le_refl _))
      have hw6 := ab_trans hw3 y36
      have hY36 := hY3.keep y36
      have hH6 := ab_trans hH3 y36
      have HSm : Calls Tryz.prog 13 #[.agg #[.int .i64 0, .int .i64 0, .int .i64 0, .int .i64 0, .int .i64 0, .int .i64 0, .slice none 0 0], .agg #[.int .i64 0, .int .i64 0, .int .i64 0, .int .i64 0, .int .i64 0, .int .i64 0, .slice none 0 0]] Y6 fun e w' => e = .returned (.bool true) ∧ Below Y6.heap.size Y6 w' := rsame17_yes zBt (.slice none 0 0) (.slice none 0 0) Y6 (er0 _) (er0 _)
      clear hY5 y5 C6 HR2 y4 hN3 y36 hY3
      go_wp2_with (first
        | (refine ld_blk rfl rfl hY36 rfl _ Tryz.underlying33 rfl (info_bt zBt none 0 0) ?_)
        | (refine ld_blk rfl rfl hY6 rfl _ Tryz.underlying33 rfl (info_bt zBt none 0 0) ?_)
        | (go_at_call 13; refine HSm.mono ?_; rintro e Y7 ⟨rfl, y7⟩; obtain ⟨x6, z6, hq7, hx7⟩ := HX8.out _ (ab_trans hw6 y7) (ab_trans hH6 y7))
        | (go_at_call 16; refine (sents_yes _ _ L L _ hx7 hq7 (entQ_refl L)).mono ?_; rintro e Y8 ⟨rfl, y8⟩))
      go_ret
      exact ⟨rfl, ab_trans hw6 (ab_trans y7 y8)⟩
theorem walk {W : World} (ep : Int) (h0 : -9223372036854775808 ≤ ep ∧ ep ≤ 9223372036854775807) (ln : Int) (h1 : -9223372036854775808 ≤ ln ∧ ln ≤ 9223372036854775807) (f0 : Int) (h2 : -9223372036854775808 ≤ f0 ∧ f0 ≤ 9223372036854775807) (f1 : Int) (h3 : -9223372036854775808 ≤ f1 ∧ f1 ≤ 9223372036854775807) (t0 : Int) (h4 : -9223372036854775808 ≤ t0 ∧ t0 ≤ 9223372036854775807) (t1 : Int) (h5 : -9223372036854775808 ≤ t1 ∧ t1 ≤ 9223372036854775807)
    (v : Value) (l : List (Nat → Int)) (hS : SR 76 ek W v l) (N : Nt) (vn vo ve : Value) (hI : Is W vn N.ns) (hO : SR 5 k64 W vo N.os) (hE : SR 76 ek W ve N.es) (hN : WN N) (hL : LenN N) :
    Calls Tryz.prog 4 #[.agg #[.int .i64 ep, .int .i64 ln, .int .i64 f0, .int .i64 f1, .int .i64 t0, .int .i64 t1, v], ntV N vn vo ve] W fun e w' => e = .returned (.bool true) ∧ Below W.heap.size W w' := by
  by_cases c : l.length ≤ 100 ∧ N.ns.length + N.os.length + N.es.length ≤ 300
  · exact small17 ep ln f0 f1 t0 t1 v (l.map entOf) N (N.es.map entOf) vn vo ve W (er_ents hS) (by rw [List.length_map]; exact c.1) hI hO (er_ents hE) (by rw [List.length_map]; exact c.2)
  · obtain ⟨q, cap, g, off, rfl, -⟩ := hS
    obtain ⟨qn, cn, rfl⟩ := hI.form
    obtain ⟨qo, co, go, oo, rfl, -⟩ := hO
    obtain ⟨qe, ce, ge, oe, rfl, -⟩ := hE
    exact big17 ep ln f0 f1 t0 t1 q l.length cap N.k N.f N.t qn qo qe N.ns.length cn N.os.length co N.es.length ce W hL.1 hL.2.1 hL.2.2 (by omega)
theorem own : ownKnob Tryz.prog.godebug = none := by kernel_rfl
theorem laidOut : laidOutB Tryz.prog = true := by kernel_rfl

set_option maxRecDepth 100000 in
theorem lifted (os : Os) (started : os.Started) (H : Type) (enc : TypeId × Value → H) :
    ReturnsInHanded {} Tryz.checked os 4 .any (Rows.gateFormsSpec.pre6 enc Tryz.prog Tryz.f4 Rows.gateFormsRow.domain false) (Rows.gateFormsSpec.post enc Tryz.prog Tryz.f4 false true false false) := by
  refine returnsInHanded_of_change_sized (C := Tryz.checked) own started (by kernel_rfl) Tryz.func4
    (ChangeSpec.witness6 (enc := enc) (C := Tryz.checked) false ⟨#[], #[.agg #[.int .i64 0, .int .i64 0, .int .i64 0, .int .i64 0, .int .i64 0, .int .i64 0, .slice none 0 0], .agg #[.int .i64 0, .int .i64 0, .int .i64 0, .slice none 0 0, .slice none 0 0, .slice none 0 0]], []⟩ 8 (by kernel_rfl) (by kernel_rfl) (by kernel_rfl) (by kernel_rfl)) ?_
  intro W base args ds gs before hval0 hW hcnd hsz _
  have hval : ∀ (j : Nat) t v, Tryz.f4.params[j]? = some t → args[j]? = some v → Value.okWide Tryz.prog W .any base t v := hval0
  have hW' := hW
  obtain ⟨p, q, hA0, hV, rfl, hfz, hnd⟩ := hW
  have hA : DataW.TrodAll enc Tryz.prog W 0 (fun _ => true) true Tryz.f4.params.toList args.toList ds p := hA0
  rw [Tryz.params4] at hA hval
  obtain ⟨v0, vs0, d0, ds0, p0, q0, hargs, rfl, rfl, h0, r0⟩ := trodAll_cons hA
  obtain ⟨v1, vs1, d1, ds1, p1, q1, rfl, rfl, rfl, h1, r1⟩ := trodAll_cons r0
  obtain ⟨rfl, rfl, rfl⟩ := trodAll_nil r1
  obtain rfl : args = #[v0, v1] := by cases args; simp_all
  obtain ⟨rfl, rfl⟩ := trodVars_none hV
  have k0 := h0
  have lt0 : ∀ x ∈ p0, x.block < W.heap.size := by obtain ⟨m, hm⟩ := k0; exact DataW.trod_lt m _ _ _ hm
  have k1 := h1
  have lt1 : ∀ x ∈ p1, x.block < W.heap.size := by obtain ⟨m, hm⟩ := k1; exact DataW.trod_lt m _ _ _ hm
  obtain ⟨cs0, rfl, hz0, fm0, hx0⟩ := open_struct (n := 7) Tryz.underlying33 (by kernel_rfl) (hval 0 33 v0 rfl rfl) h0
  obtain ⟨e0_0, e0_1, e0_2, e0_3, e0_4, e0_5, e0_6, rfl⟩ : ∃ e0_0 e0_1 e0_2 e0_3 e0_4 e0_5 e0_6, cs0 = #[e0_0, e0_1, e0_2, e0_3, e0_4, e0_5, e0_6] := by
    refine ⟨cs0[0], cs0[1], cs0[2], cs0[3], cs0[4], cs0[5], cs0[6], ?_⟩
    apply Array.ext
    · simpa using hz0
    · intro i h1 h2
      have : i = 0 ∨ i = 1 ∨ i = 2 ∨ i = 3 ∨ i = 4 ∨ i = 5 ∨ i = 6 := by omega
      rcases this with rfl | rfl | rfl | rfl | rfl | rfl | rfl <;> rfl
  obtain ⟨fy0_0, fg0_0⟩ := hx0 0 _ rfl
  obtain ⟨a0_0, ea0_0, w0_0⟩ := flat_cell 8 _ 3 _ _ 0 .i64 fg0_0 (by kernel_rfl)
  obtain rfl : e0_0 = .int .i64 a0_0 := by have h9 : ([e0_0] : List Value)[0]? = some (Value.int .i64 a0_0) := ea0_0; simpa using h9
  obtain ⟨fy0_1, fg0_1⟩ := hx0 1 _ rfl
  obtain ⟨a0_1, ea0_1, w0_1⟩ := flat_cell 8 _ 3 _ _ 0 .i64 fg0_1 (by kernel_rfl)
  obtain rfl : e0_1 = .int .i64 a0_1 := by have h9 : ([e0_1] : List Value)[0]? = some (Value.int .i64 a0_1) := ea0_1; simpa using h9
  obtain ⟨fy0_2, fg0_2⟩ := hx0 2 _ rfl
  obtain ⟨a0_2, ea0_2, w0_2⟩ := flat_cell 8 _ 24 _ _ 0 .i64 fg0_2 (by kernel_rfl)
  obtain rfl : e0_2 = .int .i64 a0_2 := by have h9 : ([e0_2, e0_3] : List Value)[0]? = some (Value.int .i64 a0_2) := ea0_2; simpa using h9
  obtain ⟨a0_3, ea0_3, w0_3⟩ := flat_cell 8 _ 24 _ _ 1 .i64 fg0_2 (by kernel_rfl)
  obtain rfl : e0_3 = .int .i64 a0_3 := by have h9 : ([.int .i64 a0_2, e0_3] : List Value)[1]? = some (Value.int .i64 a0_3) := ea0_3; simpa using h9
  obtain ⟨fy0_3, fg0_3⟩ := hx0 3 _ rfl
  obtain ⟨a0_4, ea0_4, w0_4⟩ := flat_cell 8 _ 24 _ _ 0 .i64 fg0_3 (by kernel_rfl)
  obtain rfl : e0_4 = .int .i64 a0_4 := by have h9 : ([e0_4, e0_5] : List Value)[0]? = some (Value.int .i64 a0_4) := ea0_4; simpa using h9
  obtain ⟨a0_5, ea0_5, w0_5⟩ := flat_cell 8 _ 24 _ _ 1 .i64 fg0_3 (by kernel_rfl)
  obtain rfl : e0_5 = .int .i64 a0_5 := by have h9 : ([.int .i64 a0_4, e0_5] : List Value)[1]? = some (Value.int .i64 a0_5) := ea0_5; simpa using h9
  obtain ⟨fy0_4, fg0_4⟩ := hx0 4 _ rfl
  obtain ⟨sq0_6, sg0_6, so0_6, sn0_6, sk0_6, sl0_6, ee0_6, hl0_6, hk0_6, hm0_6, hp0_6, hg0_6, hc0_6⟩ := rows_of (n := 76) (D := 8) ek Tryz.underlying31 (by kernel_rfl) (by omega) (kinds_of (by kernel_rfl)) fg0_4
  obtain rfl : e0_6 = .slice sq0_6 sn0_6 sk0_6 := by have h9 : [e0_6] = [Value.slice sq0_6 sn0_6 sk0_6] := ee0_6; simpa using h9
  have S0_6_ := sr_rows (ks := ek) hl0_6 hk0_6 hm0_6 hp0_6 hg0_6 hc0_6
  obtain ⟨N1, vn1, vo1, ve1, rfl, hI1, hO1, hE1, hN1, hL1⟩ := open_note (hval 1 36 v1 rfl rfl) h1 (fun n hn => by simpa using List.all_eq_true.1 hsz n (DataW.weights_mem_each (j := 1) (t := 36) (by kernel_rfl) rfl n hn))
  clear hA0 hval0
  refine (walk a0_0 (bounds_i64 w0_0) a0_1 (bounds_i64 w0_1) a0_2 (bounds_i64 w0_2) a0_3 (bounds_i64 w0_3) a0_4 (bounds_i64 w0_4) a0_5 (bounds_i64 w0_5) (.slice sq0_6 sn0_6 sk0_6) _ S0_6_ N1 vn1 vo1 ve1 hI1 hO1 hE1 hN1 hL1).mono fun e W' ⟨he, bel⟩ => ?_
  subst he
  exact ⟨_, rfl, _, _, _, [], _, [], hW', trodAll_mk1 (shut_bool Tryz.underlying4 _), (trodAll_cons_mk (Below.trod laidOut (by kernel_rfl) (of_decide_eq_true (by kernel_rfl)) k0 bel lt0) (trodAll_cons_mk (Below.trod laidOut (by kernel_rfl) (of_decide_eq_true (by kernel_rfl)) k1 bel lt1) trodAll_mk0)), rfl, bel.frame _, fun h => by cases h⟩

theorem over : Rows.gateFormsRow.holds Tryz.pinned (OpenSpec.ofChange Rows.gateFormsSpec) :=
  OpenClaim.holds_of_wide 4 Tryz.f4 rfl rfl rfl rfl rfl rfl rfl ⟨rfl, rfl, rfl, rfl, rfl⟩ rfl rfl rfl rfl rfl (by kernel_rfl) Tryz.func4 (by kernel_rfl)
    (of_decide_eq_true (by kernel_rfl)) (by unfold Func.isWrapper; first | (rw [if_pos (by decide +kernel)]; kernel_rfl) | (rw [if_neg (by decide +kernel)]; exact ⟨rfl, rfl⟩))
    (fun os started H enc _ => lifted os started H enc)

theorem proved : Rows.GateFormsSaid := over
end Go.Proofs.YtclfdagenaaalaaGreat.gateForms
namespace Go.Proofs.YtclfdagenaaalaaGreat
theorem gateForms_holds : Rows.GateFormsSaid := gateForms.proved
#print axioms gateForms_holds
end Go.Proofs.YtclfdagenaaalaaGreat
