/-
  Basin's pour.
-/
import Derived.Test.YtfnageillhpjpaaPk44
import Derived.Test.YtfnageillhpjpaaPk39
namespace Go.Proofs.Ytfnageillhpjpaa
open Go.RowKit Go.Maps
set_option linter.unusedVariables false
set_option maxRecDepth 100000

theorem bs_two (c d : Nat → Int) (w : World) : (Instr.buildSlice 117 2 #[(0, .agg (CA c)), (1, .agg (CA d))]).run Try.prog w = .ok (.slice (some ⟨w.heap.size, 0, none⟩) 2 2) (w.alloc (.cells ((CA c).toList ++ (CA d).toList).toArray 54)) := by kernel_rfl
theorem bsTW {o : Oper} {a : Act} {w : World} {K : Act → World → Prop} {Q : Exit → Act → World → Prop} (d : Option Tmp) (hd : o.dst = d) {parts : Array (Nat × Operand)} (ho : o.op = .buildSlice 117 2 parts) (x y : Nat → Int)
    (hl : parts.map (fun (i, x) => (i, a.eval x)) = #[(0, .agg (CA x)), (1, .agg (CA y))])
    (h : ∀ W', CRow W' w.heap.size 0 [x, y] → w.heap.size < W'.heap.size → Below w.heap.size w W' → K (a.put d (.slice (some ⟨w.heap.size, 0, none⟩) 2 2)) W') : o.wp Try.prog a w K Q := by
  subst hd
  unfold Oper.wp execOp
  simp only [ho, Sem.run_bind, hl, bs_two, Result.andThen_ok]
  have hB := Blk.new w ((CA x).toList ++ (CA y).toList).toArray 54
  refine h _ ?_ hB.lt ((Below.refl _ _).alloc (Nat.le_refl _) _)
  intro j c hj i v hv
  have hlx : (CA x).toList.length = 74 := by rw [Array.length_toList, CA_size]
  rw [hB.cell]
  match j, hj with
  | 0, hj =>
    simp only [List.getElem?_cons_zero, Option.some.injEq] at hj
    subst hj
    have hi := (List.getElem?_eq_some_iff.1 hv).1
    simp only [List.getElem?_toArray]
    rw [show 0 + 0 * 74 + i = i by omega, List.getElem?_append_left hi]
    exact hv
  | 1, hj =>
    simp only [List.getElem?_cons_succ, List.getElem?_cons_zero, Option.some.injEq] at hj
    subst hj
    simp only [List.getElem?_toArray]
    rw [show 0 + 1 * 74 + i = 74 + i by omega, List.getElem?_append_right (by omega), hlx, Nat.add_sub_cancel_left]
    exact hv
  | j + 2, hj => simp at hj
/-- A store into a map, where its run is known. -/
theorem muW {P : Program} {o : Oper} {a : Act} {w : World} {K : Act → World → Prop} {Q : Exit → Act → World → Prop} (d : Option Tmp) (hd : o.dst = d) {t : TypeId} {m x y : Operand} (ho : o.op = .mapUpdate t m x y) {mv kv v : Value} (hm : a.eval m = mv) (hx : a.eval x = kv) (hy : a.eval y = v) {w' : World} (hr : (Instr.mapUpdate t mv kv v).run P w = .ok () w')
    (h : K (a.put d undef) w') : o.wp P a w K Q := by
  subst hd
  unfold Oper.wp execOp
  simp only [ho, hm, hx, hy, Sem.run_bind, hr, Result.andThen_ok, Sem.run_pure]
  exact h
theorem lenW {P : Program} {ρ : Operand → Value} {o : Oper} {x : Operand} {t : TypeId} (ho : o.op = .call { callee := .builtin .len, args := #[x], argTypes := #[t] }) {v v' : Value} (hx : ρ x = v) {w : World} (hr : ∀ ty, (Builtin.len_ #[t] ty #[v]).run P w = .ok v' w) : (execOp ρ o).run P w = .ok (.value v') w := by
  unfold execOp
  simp only [ho, resolve, invoke, builtin, Sem.run_bind, Sem.run_pure, Result.andThen_ok, List.map_toArray, List.map_cons, List.map_nil, hx, hr]
/-- The names of an operation that aren't ahead of the bases, in memory. -/
theorem baids_any {B : Nat} {K : Bkk} {S : Bsn} (o : Op5) (w : World) (h : Bq w B K S) (ho : Fit5 o) :
    Calls Try.prog 52 #[opV o, K.vr, .int .i64 S.sh] w fun e w' => ∃ v, e = .returned v ∧ EO E3k 47 w' w.heap.size v (idL o.t o.y S.sh S.res) ∧ Below w.heap.size w w' := by
  obtain ⟨q, cap, g, off, he, hc, hm, hp, hg, hr⟩ := h.re.is
  rw [he]
  refine (ids_any o.s o.k o.t o.y o.v q g off S.res.length cap S.res S.sh w rfl (by have := h.ok.r1; omega) hp hg hr ho.t.1 ho.t.2 ho.y.1 ho.y.2 (by have := h.ok.s1; omega) (fun j r hj => (h.ok.rr r (List.mem_of_getElem? hj)).2)).mono ?_
  rintro e w' ⟨v, rfl, hO, -, hb⟩
  exact ⟨v, rfl, eo_of (n := S.res.length) hO, hb⟩
set_option maxHeartbeats 4000000 in
theorem bapour_any {B : Nat} {K : Bkk} {S : Bsn} (src : Int) (o : Op5) (w : World) (h : Bq w B K S) (ho : Fit5 o) (hs : J64 src) :
    Calls Try.prog 43 #[bptr K, .int .i64 src, opV o] w fun e w' => e = .returned (.bool (rooB S o)) ∧ Bq w' B K (pouS S src o) ∧ Frm (fun k => k = K.m) w w' := by
  obtain ⟨A, hE, hX, hw⟩ := blk1 w (opA o) 27
  have hA := h.keep hw
  obtain ⟨qr, cr, er⟩ := hA.re.is.form
  have HC : Hid (∀ V, Below A.heap.size A V → V.cell? ⟨K.b, 0, none⟩ = some (.slice qr S.res.length cr) ∧ V.cell? ⟨K.b, 1, none⟩ = some (.int .i64 S.sh) ∧ V.cell? ⟨K.b, 2, none⟩ = some (.int .i64 S.mo) ∧ V.cell? ⟨K.b, 5, none⟩ = some (.map (some K.m))) := fun V hb => by
    obtain ⟨c0, c1, c2, c3, c4, c5⟩ := hA.cells V hb
    rw [er] at c0
    exact ⟨c0, c1, c2, c5⟩
  have HY : Hid (∀ V, Below A.heap.size A V → V.cell? ⟨w.heap.size, 0, none⟩ = some (.int .i64 o.s) ∧ V.cell? ⟨w.heap.size, 1, none⟩ = some (.int .i64 o.k) ∧ V.cell? ⟨w.heap.size, 2, none⟩ = some (.int .i64 o.t) ∧ V.cell? ⟨w.heap.size, 3, none⟩ = some (.int .i64 o.y) ∧ V.cell? ⟨w.heap.size, 4, none⟩ = some (.int .i64 o.v)) := fun V hb => ⟨(hX.keep hb).at rfl, (hX.keep hb).at rfl, (hX.keep hb).at rfl, (hX.keep hb).at rfl, (hX.keep hb).at rfl⟩
  have HB : Hid (Bq A B K S) := hA
  have HI : Hid (∀ V, Below A.heap.size A V → Calls Try.prog 52 #[opV o, .slice qr S.res.length cr, .int .i64 S.sh] V fun e w' => ∃ v, e = .returned v ∧ EO E3k 47 w' V.heap.size v (idL o.t o.y S.sh S.res) ∧ Below V.heap.size V w') := fun V hb => by
    have := baids_any o V (hA.keep hb) ho
    rw [er] at this
    exact this
  have hzA : w.heap.size < A.heap.size := hX.lt
  clear hX h hA er
  obtain ⟨b, m, gf, cf, gb, cb, vr⟩ := K
  generalize hnr : S.res.length = nr at *
  unfold opA at hE
  unfold opV opA at HI ⊢
  try dsimp only at *
  go_enter Try.func43, Try.ntmps43
  go_upto_region 1 with fail
  refine wp_region_held_drew (S := fun w' => Below A.heap.size A w') (by kernel_rfl) (ab_drew (Below.refl _ _)) (fun hHeld => ?_)
  clear hE
  refine takeH (i := 0) (some 11) rfl rfl (by kernel_rfl) (by kernel_rfl) (by kernel_rfl) (fun _ _ _ h => h) (by rfl) (fun w hSw => by (try dsimp only at hSw); (obtain ⟨q0, q1, q2, q3, q4⟩ := HY.out _ hSw; go_simp; try rfl)) hHeld ?_
  go_frame
  refine takeH (i := 1) (some 12) rfl rfl (by kernel_rfl) (by kernel_rfl) (by kernel_rfl) (fun _ _ _ h => h) (by rfl) (fun w hSw => by (try dsimp only at hSw); go_simp; try rfl) hHeld ?_
  go_frame
  refine takeH (i := 2) (some 13) rfl rfl (by kernel_rfl) (by kernel_rfl) (by kernel_rfl) (fun _ _ _ h => h) (by rfl) (fun w hSw => by (try dsimp only at hSw); go_simp; try rfl) hHeld ?_
  go_frame
  refine takeH (i := 3) (some 14) rfl rfl (by kernel_rfl) (by kernel_rfl) (by kernel_rfl) (fun _ _ _ h => h) (by rfl) (fun w hSw => by (try dsimp only at hSw); go_simp; try rfl) hHeld ?_
  go_frame
  refine takeH (i := 4) (some 15) rfl rfl (by kernel_rfl) (by kernel_rfl) (by kernel_rfl) (fun _ _ _ h => h) (by rfl) (fun w hSw => by (try dsimp only at hSw); (obtain ⟨q0, q1, q2, q5⟩ := HC.out _ hSw; go_simp; try rfl)) hHeld ?_
  go_frame
  refine takeH (i := 5) (some 16) rfl rfl (by kernel_rfl) (by kernel_rfl) (by kernel_rfl) (fun _ _ _ h => h) (by rfl) (fun w hSw => by (try dsimp only at hSw); go_simp; try rfl) hHeld ?_
  go_frame
  refine takeH (i := 6) (some 17) rfl rfl (by kernel_rfl) (by kernel_rfl) (by kernel_rfl) (fun _ _ _ h => h) (by rfl) (fun w hSw => by (try dsimp only at hSw); go_simp; try rfl) hHeld ?_
  go_frame
  refine takeH (i := 7) (some 18) rfl rfl (by kernel_rfl) (by kernel_rfl) (by kernel_rfl) (fun _ _ _ h => h) (by rfl) (fun w hSw => by (try dsimp only at hSw); go_simp; try rfl) hHeld ?_
  go_frame
  refine takeH (i := 8) (some 19) rfl rfl (by kernel_rfl) (by kernel_rfl) (by kernel_rfl) (fun _ _ _ h => h) (by rfl) (fun w hSw => by (try dsimp only at hSw); (obtain ⟨q0, q1, q2, q5⟩ := HC.out _ hSw; go_simp; try rfl)) hHeld ?_
  go_frame
  refine takeH (i := 10) (some 21) rfl rfl (by kernel_rfl) (by kernel_rfl) (by kernel_rfl) (fun _ _ _ h => h) (by rfl) (fun w hSw => by (try dsimp only at hSw); go_simp; try rfl) hHeld ?_
  go_frame
  refine takeH (i := 11) (some 22) rfl rfl (by kernel_rfl) (by kernel_rfl) (by kernel_rfl) (fun _ _ _ h => h) (by rfl) (fun w hSw => by (try dsimp only at hSw); go_simp; try rfl) hHeld ?_
  go_frame
  refine wpAnyH_ready (rs := [9]) (by kernel_rfl) (by simp) (AllReadyH.cons rfl (fun K hK => ?_) AllReadyH.nil)
  go_simp
  refine (HI.out _ hHeld).mono ?_
  rintro e V1 ⟨v1, rfl, hO1, b1⟩
  show K _ _
  have hs1 := hHeld.size
  refine hK.out _ _ (ab_trans hHeld b1) (fun hHeld => ?_)
  clear hK K b1
  have hpl : idsB S o = (idL o.t o.y S.sh S.res).filter (fun k => !pasB S.ba k) := rfl
  have hB1 := HB.out.keep hHeld
  have HD := badelete_any (idL o.t o.y S.sh S.res) v1 V1 hO1 hB1.pw (fun k hk => (ids_mem HB.out.ok ho hk).2) (by rw [idL_len, hnr]; have := HB.out.ok.r1; omega)
  rw [← hpl] at HD
  have hv1 : ∀ k, v1.ownBlock = some k → A.heap.size ≤ k := fun k hk => Nat.le_trans hs1 (World.ownsRow.lt hO1 k hk).1
  clear hB1 hO1 hpl
  refine wpAnyH_ready (rs := [12]) (by kernel_rfl) (by simp) (AllReadyH.cons rfl (fun K hK => ?_) AllReadyH.nil)
  go_simp
  refine HD.mono ?_
  rintro e V2 ⟨v2, rfl, hO2, hF2, -⟩
  show K _ _
  have hA2 : Below A.heap.size A V2 := hHeld.trans (hF2.below hHeld.size hv1)
  refine hK.out _ _ hA2 (fun hHeld => ?_)
  clear hK K hF2 HD
  refine takeH (i := 13) (some 7) rfl rfl (by kernel_rfl) (by kernel_rfl) (by kernel_rfl) (fun _ _ _ h => h) (by rfl) (fun w hSw => by (try dsimp only at hSw); go_simp; try rfl) hHeld ?_
  go_frame
  refine wpAnyH_done (by kernel_rfl) ?_ _
  clear hHeld HI hv1
  obtain ⟨q2, c2, e2⟩ := hO2.form
  have hni : (idsB S o).length ≤ 3 := by have := idsB_len S o; have := HB.out.ok.r1; omega
  have hik : ∀ k ∈ idsB S o, KyOk k := fun k hk => (idsB_mem HB.out.ok ho hk).1
  have hB2 := HB.out.keep hA2
  have HR : Hid (rooB S o = decide (((S.ks.length + misB S (idsB S o) : Nat) : Int) ≤ S.mo)) := rfl
  have hmi := misB_le S (idsB S o)
  have hkl : S.ks.length ≤ 1024 := by have := HB.out.ok.kl; have := HB.out.ok.m1; omega
  have HP : Hid (rooB S o = true → ∀ j, Okb (((idsB S o).take j).foldl (fun T k => addB T (oneF src o.s o.t o.v) k) S)) := fun hr j => okb_pouK HB.out.ok ho hs hr j
  have HQ : Hid (pouB S src o = (idsB S o).foldl (fun T k => addB T (oneF src o.s o.t o.v) k) S) := rfl
  have HLk : Hid (∀ k ∈ idsB S o, 0 ≤ k.1 ∧ k.1 < (S.ba.length : Int)) := fun k hk => (idsB_mem HB.out.ok ho hk).2
  generalize idsB S o = l at *
  have HM := fun (V : World) (hb : Below V2.heap.size V2 V) => bamiss_any v2 l V (hB2.keep hb) (hO2.keep hb).er (by omega) hik
  have hlen := fun (V : World) (hb : Below V2.heap.size V2 V) => (hB2.keep hb).ce.len
  have HO2 : Hid (EO E3k 47 V2 A.drew.heap.size v2 l) := hO2
  have HB2 : Hid (Bq V2 B ⟨b, m, gf, cf, gb, cb, vr⟩ S) := hB2
  rw [e2] at HM
  rw [e2]
  generalize hl : l.length = n at *
  clear hO2 hB2
  generalize hnk : S.ks.length = nk at *
  generalize misB S l = mi at *
  go_upto_region 2 with fail
  refine wp_region_held_drew (S := fun w' => Below V2.heap.size V2 w') (by kernel_rfl) (ab_drew (Below.refl _ _)) (fun hHeld => ?_)
  refine takeH (i := 0) (some 24) rfl rfl (by kernel_rfl) (by kernel_rfl) (by kernel_rfl) (fun _ _ _ h => h) (by rfl) (fun w hSw => by (try dsimp only at hSw); go_simp; try rfl) hHeld ?_
  go_frame
  refine takeH (i := 1) (some 25) rfl rfl (by kernel_rfl) (by kernel_rfl) (by kernel_rfl) (fun _ _ _ h => h) (by rfl) (fun w hSw => by (try dsimp only at hSw); go_simp; try rfl) hHeld ?_
  go_frame
  refine takeH (i := 2) (some 26) rfl rfl (by kernel_rfl) (by kernel_rfl) (by kernel_rfl) (fun _ _ _ h => h) (by rfl) (fun w hSw => by (try dsimp only at hSw); go_simp; try rfl) hHeld ?_
  go_frame
  refine takeH (i := 3) (some 27) rfl rfl (by kernel_rfl) (by kernel_rfl) (by kernel_rfl) (fun _ _ _ h => h) (by rfl) (fun w hSw => by (try dsimp only at hSw); (obtain ⟨q0, q1, q2, q5⟩ := HC.out _ (ab_trans hA2 hSw); go_simp; try rfl)) hHeld ?_
  go_frame
  refine takeH (i := 4) (some 28) rfl rfl (by kernel_rfl) (by kernel_rfl) (by kernel_rfl) (fun _ _ _ h => h) (by rfl) (fun w hSw => by (try dsimp only at hSw); exact lenW rfl rfl (hlen _ hSw)) hHeld ?_
  go_frame
  refine takeH (i := 5) (some 29) rfl rfl (by kernel_rfl) (by kernel_rfl) (by kernel_rfl) (fun _ _ _ h => h) (by rfl) (fun w hSw => by (try dsimp only at hSw); go_simp; try rfl) hHeld ?_
  go_frame
  refine takeH (i := 6) (some 30) rfl rfl (by kernel_rfl) (by kernel_rfl) (by kernel_rfl) (fun _ _ _ h => h) (by rfl) (fun w hSw => by (try dsimp only at hSw); go_simp; try rfl) hHeld ?_
  go_frame
  refine takeH (i := 9) (some 33) rfl rfl (by kernel_rfl) (by kernel_rfl) (by kernel_rfl) (fun _ _ _ h => h) (by rfl) (fun w hSw => by (try dsimp only at hSw); go_simp; try rfl) hHeld ?_
  go_frame
  refine takeH (i := 10) (some 34) rfl rfl (by kernel_rfl) (by kernel_rfl) (by kernel_rfl) (fun _ _ _ h => h) (by rfl) (fun w hSw => by (try dsimp only at hSw); go_simp; try rfl) hHeld ?_
  go_frame
  refine takeH (i := 11) (some 35) rfl rfl (by kernel_rfl) (by kernel_rfl) (by kernel_rfl) (fun _ _ _ h => h) (by rfl) (fun w hSw => by (try dsimp only at hSw); go_simp; try rfl) hHeld ?_
  go_frame
  refine takeH (i := 12) (some 36) rfl rfl (by kernel_rfl) (by kernel_rfl) (by kernel_rfl) (fun _ _ _ h => h) (by rfl) (fun w hSw => by (try dsimp only at hSw); (obtain ⟨q0, q1, q2, q5⟩ := HC.out _ (ab_trans hA2 hSw); go_simp; try rfl)) hHeld ?_
  go_frame
  refine wpAnyH_ready (rs := [7]) (by kernel_rfl) (by simp) (AllReadyH.cons rfl (fun K hK => ?_) AllReadyH.nil)
  go_simp
  refine (HM _ hHeld).mono ?_
  rintro e V3 ⟨rfl, b3⟩
  show K _ _
  refine hK.out _ _ (ab_trans hHeld b3) (fun hHeld => ?_)
  clear hK K b3 HM hlen
  have hadd : IntKind.i64.wrap ((nk : Int) + (mi : Int)) = (nk : Int) + (mi : Int) := by simp [IntKind.wrap, IntKind.signed, IntKind.bits] <;> omega
  refine takeH (i := 8) (some 32) rfl rfl (by kernel_rfl) (by kernel_rfl) (by kernel_rfl) (fun _ _ _ h => h) (by rfl) (fun w hSw => by (try dsimp only at hSw); go_simp; try rfl) hHeld ?_
  go_frame
  refine takeH (i := 13) (some 37) rfl rfl (by kernel_rfl) (by kernel_rfl) (by kernel_rfl) (fun _ _ _ h => h) (by rfl) (fun w hSw => by (try dsimp only at hSw); go_simp; try rfl) hHeld ?_
  go_frame
  clear hadd
  refine wpAnyH_done (by kernel_rfl) ?_ _
  have hB3 := HB2.out.keep hHeld
  have hO3 := HO2.out.keep hHeld
  have hA3 := ab_trans hA2 hHeld
  have hw3 := ab_trans hw hA3
  clear hHeld HB2 HO2
  by_cases c : S.mo < (nk : Int) + (mi : Int)
  · have HV : Hid (rooB S o = false) := by show _ = _; rw [HR.out]; exact decide_eq_false (by omega)
    go_wp2_with fail
    go_ret
    exact ⟨by rw [HV.out]; rfl, by rw [pouS_no HV.out]; exact hB3, frm_below hw3⟩
  · have HV : Hid (rooB S o = true) := by show _ = _; rw [HR.out]; exact decide_eq_true (by omega)
    have HP' : Hid (∀ j, Okb ((l.take j).foldl (fun T k => addB T (oneF src o.s o.t o.v) k) S)) := HP.out HV.out
    have h1 := one_any src o.s o.k o.t o.y o.v
    clear HP
    have HWf : Hid (Wf (oneF src o.s o.t o.v)) := wf_oneB _ _ _ _ hs ho.s ho.t ho.v
    have hvb : J64 o.v := ho.v
    obtain ⟨y0, y1, y2, y3, y4⟩ := HY.out _ hA3
    generalize oneF src o.s o.t o.v = one at *
    have hvl : v2 = .slice q2 n c2 := e2
    rw [hvl] at hO3
    have hO3e := hO3
    obtain ⟨q', cap', g', off', e', hc', hm', hp', -⟩ := hO3e.er
    have ecq : q2 = q' ∧ c2 = cap' := by
      rw [hl] at e'
      injection e' with e1 e2 e3
      exact ⟨e1, e3⟩
    obtain ⟨rfl, rfl⟩ := ecq
    rw [hl] at hp'
    clear e' hc' hO3e hvl e2
    go_upto_region 5 with (first
      | (go_at_call 54; refine (h1 _ hvb.1 hvb.2).mono ?_; rintro e V4 ⟨rfl, b4⟩)
      | (refine al_cell rfl rfl ?_; intro V5 e5 hX5 b5; clear e5)
      | (refine st_cell rfl rfl hX5 rfl rfl ?_; intro V6 hX6 C6))
    have hz5 := hX6.lt
    have b6 : Below V3.heap.size V3 V6 := ab_chg (ab_trans b4 b5) C6 b4.size
    have hB6 := hB3.keep b6
    have hO6 := hO3.keep b6
    have hw6 := ab_trans hw3 b6
    have hX6' : Blk V6 V4.heap.size (CA one) 54 := hX6
    have hA4 : A.heap.size ≤ V4.heap.size := Nat.le_trans hA3.size b4.size
    clear hX5 b4 b5 C6 b6 hB3 hO3 hX6 y0 y1 y2 y3 y4 h1
    generalize V4.heap.size = X at *
    go_wp2_with fail
    go_loopw [43] (fun i wr => ∃ k : Nat, k ≤ n ∧ i = .int .i64 (k : Int) ∧ Bq wr B ⟨b, m, gf, cf, gb, cb, vr⟩ ((l.take k).foldl (fun T k => addB T one k) S) ∧ EO E3k 47 wr A.drew.heap.size (.slice q2 n c2) l ∧ Blk wr X (CA one) 54 ∧ Frm (fun k => k = m) w wr) (fun i _ => n - (intOf i).toNat)
    case atStart => exact ⟨0, by omega, rfl, hB6, hO6, hX6', frm_below hw6⟩
    case round =>
      clear hB6 hO6 hX6' hw6
      obtain ⟨k, hk, rfl, hB, hO, hX, hF⟩ := hrel
      by_cases hkn : k = n
      · subst hkn
        rw [List.take_of_length_le (by omega), ← HQ.out] at hB
        go_wp2_with fail
        go_ret
        exact ⟨by rw [HV.out]; rfl, by rw [pouS_yes HV.out]; exact hB, hF⟩
      · have hlt : k < l.length := by omega
        obtain ⟨z, hz⟩ : ∃ z, l[k]? = some z := ⟨l[k], List.getElem?_eq_getElem hlt⟩
        have hki : (k : Int) < (n : Int) := by omega
        obtain ⟨qz, capz, gz, offz, ez, -, -, hpz, hcz⟩ := hO.er.at
        rw [hl] at ez
        injection ez with ez1 ez2 ez3
        subst ez1
        subst ez3
        clear ez2
        obtain ⟨rfl, hgz⟩ := hpz (by omega)
        have z0 := hcz k z hz 0 _ rfl
        have z1 := hcz k z hz 1 _ rfl
        have z2 := hcz k z hz 2 _ rfl
        rw [Nat.add_zero, show E3k.k = 3 from rfl] at z0
        rw [show E3k.k = 3 from rfl] at z1 z2
        have hzk := hik z (List.mem_of_getElem? hz)
        have HT : Hid ((l.take (k + 1)).foldl (fun T k => addB T one k) S = addB ((l.take k).foldl (fun T k => addB T one k) S) one z) := by
          show _ = _
          rw [List.take_add_one, hz]
          simp only [Option.toList_some, List.foldl_append, List.foldl_cons, List.foldl_nil]
        have hOK1 : Hid (Okb ((l.take (k + 1)).foldl (fun T k => addB T one k) S)) := HP'.out (k + 1)
        have hsame := fold_same one (l.take k) S
        generalize (l.take k).foldl (fun T k => addB T one k) S = T at *
        clear hcz hpz hz hp' hA4 HLk HC HY
        obtain ⟨za, zb, zd⟩ := z
        try dsimp only at z0 z1 z2
        obtain ⟨A2, hE2, hX2, hw2⟩ := blk1 wr #[.int .i64 za, .int .i64 zb, .int .i64 zd] 47
        go_upto_region 8 with fail
        have hBA := hB.keep hw2
        have hOA := hO.keep hw2
        have hXA := hX.keep hw2
        have hFA := hF.trans (frm_below hw2)
        have HL : Hid (∀ V, Below A2.heap.size A2 V → (Instr.lookup 73 (.map (some m)) (.agg #[.int .i64 za, .int .i64 zb, .int .i64 zd]) false).run Try.prog V = .ok (.agg (CA (T.cv (za, zb, zd)))) V) := fun V hb => (hBA.keep hb).ce.look (k := (za, zb, zd)) hzk (hBA.ok.cz _) false
        have HC : Hid (∀ V, Below A2.heap.size A2 V → V.cell? ⟨b, 5, none⟩ = some (.map (some m))) := fun V hb => ((hBA.keep hb).cells V (Below.refl _ _)).2.2.2.2.2
        have HWc : Hid (Wf (T.cv (za, zb, zd))) := hBA.ok.cw _
        have HBA : Hid (Bq A2 B ⟨b, m, gf, cf, gb, cb, vr⟩ T) := hBA
        have hmk := hBA.ce.noKind
        have HOA : Hid (EO E3k 47 A2 A.drew.heap.size (.slice (some ⟨gz, offz, none⟩) n c2) l) := hOA
        have HXA : Hid (Blk A2 X (CA one) 54) := hXA
        have HX2 : Hid (Blk A2 wr.heap.size #[.int .i64 za, .int .i64 zb, .int .i64 zd] 47) := hX2
        have HTl : Hid (T.ks.length ≤ 100000) := by have := hBA.ok.kl; have := hBA.ok.m1; show _ ≤ _; omega
        generalize hcv : T.cv (za, zb, zd) = cc at *
        have HCC : Hid (T.cv (za, zb, zd) = cc) := hcv
        clear hE2 z0 z1 z2 hB hO hX hF hBA hOA hXA hX2 hw2 hcv
        refine region_L 14 (S := fun w' => Below A2.heap.size A2 w') (by kernel_rfl) (ab_drew (Below.refl _ _)) (fun hHeld => ?_)
        refine takeP (i := 0) (some 47) (by rfl) rfl rfl (by kernel_rfl) (by kernel_rfl) (by kernel_rfl) (fun _ _ _ h => h) (by rfl) (fun w => by go_simp; try rfl) hHeld ?_
        go_frame
        refine takeP (i := 1) (some 48) (by rfl) rfl rfl (by kernel_rfl) (by kernel_rfl) (by kernel_rfl) (fun _ _ _ h => h) (by rfl) (fun w => by go_simp; try rfl) hHeld ?_
        go_frame
        refine takeP (i := 2) (some 49) (by rfl) rfl rfl (by kernel_rfl) (by kernel_rfl) (by kernel_rfl) (fun _ _ _ h => h) (by rfl) (fun w => by go_simp; try rfl) hHeld ?_
        go_frame
        refine takeL (i := 3) [14] (some 50) (by rfl) rfl rfl (by kernel_rfl) (by kernel_rfl) (by kernel_rfl) (by kernel_rfl) (fun _ _ _ h => h) (by rfl) (fun w hSw => by (try dsimp only at hSw); (have q5 := HC.out _ hSw; go_simp; try rfl)) hHeld ?_
        go_frame
        refine takeL (i := 4) [14] (some 51) (by rfl) rfl rfl (by kernel_rfl) (by kernel_rfl) (by kernel_rfl) (by kernel_rfl) (fun _ _ _ h => h) (by rfl) (fun w hSw => by (try dsimp only at hSw); (obtain ⟨q0, q1, q2⟩ := ld_ky (k := (za, zb, zd)) (HX2.out.keep hSw); dsimp only at q0 q1 q2; go_simp; try rfl)) hHeld ?_
        go_frame
        refine takeP (i := 5) (some 52) (by rfl) rfl rfl (by kernel_rfl) (by kernel_rfl) (by kernel_rfl) (fun _ _ _ h => h) (by rfl) (fun w => by go_simp; try rfl) hHeld ?_
        go_frame
        refine takeP (i := 6) (some 53) (by rfl) rfl rfl (by kernel_rfl) (by kernel_rfl) (by kernel_rfl) (fun _ _ _ h => h) (by rfl) (fun w => by go_simp; try rfl) hHeld ?_
        go_frame
        refine takeP (i := 7) (some 54) (by rfl) rfl rfl (by kernel_rfl) (by kernel_rfl) (by kernel_rfl) (fun _ _ _ h => h) (by rfl) (fun w => by go_simp; try rfl) hHeld ?_
        go_frame
        refine takeL (i := 8) [14] (some 55) (by rfl) rfl rfl (by kernel_rfl) (by kernel_rfl) (by kernel_rfl) (by kernel_rfl) (fun _ _ _ h => h) (by rfl) (fun w hSw => by (try dsimp only at hSw); (have q5 := HC.out _ hSw; go_simp; try rfl)) hHeld ?_
        go_frame
        refine takeL (i := 9) [14] (some 56) (by rfl) rfl rfl (by kernel_rfl) (by kernel_rfl) (by kernel_rfl) (by kernel_rfl) (fun _ _ _ h => h) (by rfl) (fun w hSw => by (try dsimp only at hSw); (obtain ⟨q0, q1, q2⟩ := ld_ky (k := (za, zb, zd)) (HX2.out.keep hSw); dsimp only at q0 q1 q2; go_simp; try rfl)) hHeld ?_
        go_frame
        refine takeL (i := 10) [14] (some 57) (by rfl) rfl rfl (by kernel_rfl) (by kernel_rfl) (by kernel_rfl) (by kernel_rfl) (fun _ _ _ h => h) (by rfl) (fun w hSw => by (try dsimp only at hSw); exact lkW rfl rfl rfl (HL.out _ hSw)) hHeld ?_
        go_frame
        refine takeL (i := 11) [14] (some 58) (by rfl) rfl rfl (by kernel_rfl) (by kernel_rfl) (by kernel_rfl) (by kernel_rfl) (fun _ _ _ h => h) (by rfl) (fun w hSw => by (try dsimp only at hSw); exact ld_oper rfl rfl (HXA.out.keep hSw)) hHeld ?_
        go_frame
        refine anyL_ready (rs := [12]) (by kernel_rfl) (by simp) (AllL.cons rfl (fun K hK => ?_) AllL.nil)
        rw [if_pos (by rfl)]
        refine bsTW (some 59) rfl rfl cc one (by simp only [List.map_toArray, List.map_cons, List.map_nil]; rfl) fun U1 hC1 hlt1 b1 => ?_
        have hs1' := hHeld.size
        refine hK.out _ _ (ab_trans hHeld b1) (fun hHeld => ?_)
        clear hK K
        go_frame
        refine anyL_ready (rs := [13]) (by kernel_rfl) (by simp) (AllL.cons rfl (fun K hK => ?_) AllL.nil)
        go_simp
        refine (join_any _ 0 2 2 [cc, one] U1 rfl (by omega) (fun c hc => by simp at hc; rcases hc with rfl | rfl; exact HWc.out; exact HWf.out) hC1 hlt1).mono ?_
        rintro e U2 ⟨rfl, b2⟩
        show K _ _
        refine hK.out _ _ (ab_trans hHeld b2) (fun hHeld => ?_)
        clear hK K hC1 hlt1 b1 b2
        obtain ⟨U3, hup, hC3, hg3⟩ := (HBA.out.keep hHeld).ce.put (k := (za, zb, zd)) hzk HTl.out (joinF [cc, one])
        refine anyL_ready (rs := [14]) (by kernel_rfl) (by simp) (AllL.last rfl (by kernel_rfl) (fun K hK => ?_))
        rw [if_pos (by rfl)]
        refine muW none rfl rfl rfl rfl rfl hup ?_
        refine hK.out _ _ ?_
        clear hK K hup
        refine anyL_done (by kernel_rfl) ?_
        have hBU := HBA.out.keep hHeld
        have hF3 : Frm (fun k => k = m) U2 U3 := frm_grown hg3 rfl
        have hB3 : Bq U3 B ⟨b, m, gf, cf, gb, cb, vr⟩ (addB T one (za, zb, zd)) := by
          have hok := hOK1.out
          rw [HT.out] at hok
          refine hBU.upd (hF3.mono fun k hk => .inr (.inr hk)) rfl rfl rfl rfl rfl (rw_at hBU.fe (hF3.other _ hBU.fe.lt hBU.nfm)) (rw_at hBU.be (hF3.other _ hBU.be.lt hBU.nbm)) ?_ hok
          rw [← HCC.out] at hC3
          exact hC3
        have hO3 : EO E3k 47 U3 A.drew.heap.size (.slice (some ⟨gz, offz, none⟩) n c2) l := own_at (HOA.out.keep hHeld) fun g hg => hF3.other g (World.ownsRow.lt (HOA.out.keep hHeld) g hg).2 (fun e => hBU.ce.noKind 47 (by rw [← show g = m from e]; exact own_kindR (HOA.out.keep hHeld) hg))
        have hX3 : Blk U3 X (CA one) 54 := (HXA.out.keep hHeld).frm hF3 (fun e => hBU.ce.noKind 54 (by rw [← show X = m from e]; exact (HXA.out.keep hHeld).kindR))
        have hFF := (hFA.trans (frm_below hHeld)).trans hF3
        rw [← HT.out] at hB3
        clear hBU hF3 hg3 hC3 HBA HOA HXA HX2 HL HC hHeld hFA
        go_wp2_with fail
        go_roundw
        case rel => exact ⟨k + 1, by omega, by go_num, hB3, hO3, hX3, hFF⟩
        case measure => simp [intOf]; omega
end Go.Proofs.Ytfnageillhpjpaa
