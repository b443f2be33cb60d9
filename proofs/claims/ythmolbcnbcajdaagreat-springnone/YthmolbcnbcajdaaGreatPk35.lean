/-
  slices.Insert of one operation in the middle of a row that has no room.
  slices.Insert of one operation in the middle of a row that has no room: the walk.
  slices.Insert wherever an operation belongs; insert.
-/
import Derived.Test.YthmolbcnbcajdaaGreatPk32
import Derived.Lib.AppendZerosOnto
namespace Go.Proofs.YthmolbcnbcajdaaGreat
open Go.RowKit
set_option linter.unusedVariables false
set_option maxRecDepth 100000

theorem zero_E {α : Type} (E : En α) (zz : α) (z : Array Value) (hz : z.toList = E.f zz) (n : Nat) : (Builtin.zeroCells z n).toList = E.fl (List.replicate n zz) := by
  have hs : z.size = E.k := by rw [← Array.length_toList, hz, E.len]
  rw [← made_E E zz z hz n]
  simp [Builtin.zeroCells, madeCells, hs]
/-- append of so many zeros onto a piece of a row, where there is no room. -/
theorem app_zeros (l : List Op5) (g cap i kz : Nat) (w : World) (ty : TypeId) (hR : Rw E5 30 w g cap l) (hi : i ≤ l.length) (hk : 0 < kz) (hg : cap < i + kz) (hs : i + kz ≤ 1000000) :
    ∃ c2 W', (Builtin.append_ #[23, 3] ty #[.slice (some ⟨g, 0, none⟩) i cap, .int .i64 (kz : Int)]).run Tryz.prog w = .ok (.slice (some ⟨w.heap.size, 0, none⟩) (i + kz) c2) W' ∧ Rw E5 30 W' w.heap.size c2 (l.take i ++ List.replicate kz zOp) ∧ Below w.heap.size w W' := by
  obtain ⟨ti, hti, hz0, hz1, hz2⟩ := info_parts infoOp5
  have hlen : (E5.fl (l.take i)).length = i * 5 := by rw [E5.fl_len, List.length_take, Nat.min_eq_left hi]; rfl
  have hld := run_loadCells_list (P := Tryz.prog) w.drew ⟨g, 0, none⟩ (E5.fl (l.take i)) (by
    intro j v hj
    rw [Addr.add_mid, Nat.zero_add]
    obtain ⟨h1, h2, cur, hB, hcs, ht⟩ := hR
    have hBd : Blk w.drew g cur 30 := hB
    rw [hBd.cell]
    have hjl := (List.getElem?_eq_some_iff.1 hj).1
    rw [hlen] at hjl
    rw [← E5.fl_take, ← ht, List.take_take, List.getElem?_take_of_lt (by
      have : i * E5.k ≤ l.length * E5.k := Nat.mul_le_mul_right _ hi
      rw [Nat.min_eq_left this]; exact hjl)] at hj
    simpa using hj)
  have hold : (Builtin.firstCells ti.size i (.slice (some ⟨g, 0, none⟩) i cap)).run Tryz.prog w.drew = .ok (E5.fl (l.take i)).toArray w.drew := by
    show (loadCells ⟨g, 0, none⟩ (i * ti.size)).run Tryz.prog w.drew = _
    rw [hz1, ← hlen]; exact hld
  have hr := Lib.run_append_grow_zeros (P := Tryz.prog) w 23 3 ty 30 ti _ .i64 .i64 Tryz.underlying23 Tryz.underlying3 hti hz0 (some ⟨g, 0, none⟩) i cap (E5.fl (l.take i)) hold kz hk (by rw [hz1]; omega) hg (by omega) (by rw [hz2]; omega) (by rw [hz2]; exact growslice_fits hg (by omega))
  have hge := grownCap_ge w (i + kz) cap 30
  have hml := grownCap_le_maxLen w (i + kz) cap 30 (by unfold maxLen; omega)
  generalize grownCap w (i + kz) cap 30 = c2 at *
  have e1 := zero_E E5 zOp (opA zOp) rfl kz
  have e2 := zero_E E5 zOp (opA zOp) rfl (c2 - (i + kz))
  have hLl : (l.take i ++ List.replicate kz zOp).length = i + kz := by rw [List.length_append, List.length_take, List.length_replicate, Nat.min_eq_left hi]
  refine ⟨c2, _, hr, ⟨by rw [hLl]; exact hge, hml, (E5.fl (l.take i)).toArray ++ Builtin.zeroCells (opA zOp) kz ++ Builtin.zeroCells (opA zOp) (c2 - (i + kz)), ?_, ?_, ?_⟩, ?_⟩
  · have := Blk.new w.drew ((E5.fl (l.take i)).toArray ++ Builtin.zeroCells (opA zOp) kz ++ Builtin.zeroCells (opA zOp) (c2 - (i + kz))) 30
    exact this
  · have z1 : (Builtin.zeroCells (opA zOp) kz).size = kz * 5 := by rw [← Array.length_toList, e1, E5.fl_len, List.length_replicate]; rfl
    have z2 : (Builtin.zeroCells (opA zOp) (c2 - (i + kz))).size = (c2 - (i + kz)) * 5 := by rw [← Array.length_toList, e2, E5.fl_len, List.length_replicate]; rfl
    rw [Array.size_append, Array.size_append, List.size_toArray, hlen, z1, z2]
    show _ = c2 * 5
    omega
  · rw [hLl, Array.toList_append, Array.toList_append, e1, e2, ← E5.fl_append, ← E5.fl_append]
    have := E5.fl_take (l.take i ++ List.replicate kz zOp ++ List.replicate (c2 - (i + kz)) zOp) (i + kz)
    rw [List.take_left' hLl] at this
    exact this
  · exact ab_alloc (ab_drew (Below.refl _ _)) _
theorem appz_l {P : Program} {ops : Array Oper} {rest : List Oper} {o : Oper} {a : Act} {w : World} {Q : Exit → Act → World → Prop} (hw : Region.wanted o (yielded ops a.tmps) = true) {s x : Operand} {t tn : TypeId} (ho : o.op = .call { callee := .builtin .append, args := #[s, x], argTypes := #[t, tn] }) (vs vx : Value) (hs : a.eval s = vs) (hx : a.eval x = vx) {v' : Value} {w' : World}
    (hr : ∀ ty, (Builtin.append_ #[t, tn] ty #[vs, vx]).run P w = .ok v' w') (h : wpList P ops Q rest (a.put o.dst v') w') : wpList P ops Q (o :: rest) a w := by
  unfold wpList
  rw [if_pos hw]
  left
  exact Lib.wp_append_run w s x t tn ho vs vx hs hx v' w' (hr o.type) h
end Go.Proofs.YthmolbcnbcajdaaGreat
namespace Go.Proofs.YthmolbcnbcajdaaGreat
open Go.RowKit
set_option linter.unusedVariables false
set_option maxRecDepth 100000

set_option maxHeartbeats 1000000 in
theorem sinsert_grow (l : List Op5) (o : Op5) (g gp cap i B : Nat) (w : World) (hO : EO E5 30 w B (.slice (some ⟨g, 0, none⟩) l.length cap) l) (hP : Blk w gp (opA o) 30) (hl : l.length ≤ 100000) (hi : i < l.length) (hc : cap < l.length + 1) (hBw : B ≤ w.heap.size) :
    Calls Tryz.prog 96 #[.slice (some ⟨g, 0, none⟩) l.length cap, .int .i64 (i : Int), .slice (some ⟨gp, 0, none⟩) 1 1] w fun e w' => ∃ c2, e = .returned (.slice (some ⟨w.heap.size, 0, none⟩) (l.length + 1) c2) ∧ EO E5 30 w' B (.slice (some ⟨w.heap.size, 0, none⟩) (l.length + 1) c2) (l.take i ++ o :: l.drop i) ∧ Below w.heap.size w w' := by
  obtain ⟨hR, hBg⟩ := hO.rw
  have hnc := hR.1
  obtain ⟨kz, hkz⟩ : ∃ kz, l.length + 1 = i + kz := ⟨l.length + 1 - i, by omega⟩
  have hz := fun ty => app_zeros l g cap i kz w ty hR (by omega) (by omega) (by omega) (by omega)
  obtain ⟨c2, W1, hr1, hR1, b1⟩ := hz 0
  have hr1' : ∀ ty, (Builtin.append_ #[23, 3] ty #[.slice (some ⟨g, 0, none⟩) i cap, .int .i64 (kz : Int)]).run Tryz.prog w = .ok (.slice (some ⟨w.heap.size, 0, none⟩) (i + kz) c2) W1 := fun ty => hr1
  have hL : (l.take i ++ List.replicate kz zOp).length = i + kz := by rw [List.length_append, List.length_take, List.length_replicate]; omega
  have hc2 := hR1.1
  rw [hL] at hc2
  have hP1 := hP.keep b1
  have hRo := hR.keep b1
  have hc2m := hR1.2.1
  unfold maxLen at hc2m
  -- the first copy
  have hcp1 := fun ty => rw_copy (P := Tryz.prog) (ty := ty) (dT := 23) (sT := 23) Tryz.underlying23 sizeOp5 hR1 (i := i) (dLen := i + kz - i) (dCap := c2 - i) (sLen := 1) (sCap := 1) (a := ⟨gp, 0, none⟩) (M := [o]) (by rw [show Nat.min 1 (i + kz - i) = 1 from Nat.min_eq_left (by omega)]; rfl) (by rw [hL, List.length_singleton]; omega) (by
    intro j v hj
    rw [Addr.add_mid, Nat.zero_add, hP1.cell]
    rw [E5.fl_one1] at hj
    have : (opA o).toList[j]? = some v := hj
    simpa using this)
  obtain ⟨W2, hr2, hR2, C2⟩ := hcp1 0
  have hr2' : ∀ ty, (Builtin.copy_ #[23, 23] ty #[.slice (some ⟨w.heap.size, i * 5, none⟩) (i + kz - i) (c2 - i), .slice (some ⟨gp, 0, none⟩) 1 1]).run Tryz.prog W1 = .ok (goInt (Nat.min 1 (i + kz - i))) W2 := fun ty => hr2
  have hgn : g ≠ w.heap.size := Nat.ne_of_lt hR.lt
  have hRo2 : Rw E5 30 W2 g cap l := by
    obtain ⟨h1, h2, cur, hB, h3⟩ := hRo
    exact ⟨h1, h2, cur, hB.chg C2 hgn, h3⟩
  have hL2 : ((l.take i ++ List.replicate kz zOp).take i ++ [o] ++ (l.take i ++ List.replicate kz zOp).drop (i + 1)) = l.take i ++ o :: List.replicate (kz - 1) zOp := by
    have hti : (l.take i).length = i := by rw [List.length_take]; omega
    rw [List.take_left' hti, List.drop_append, hti, List.drop_of_length_le (by omega), List.nil_append, show i + 1 - i = 1 by omega, List.drop_replicate, List.append_assoc]
    rfl
  rw [List.length_singleton, hL2] at hR2
  have hb2 : Below w.heap.size w W2 := ab_chg b1 C2 (Nat.le_refl _)
  -- the second copy
  have hL2l : (l.take i ++ o :: List.replicate (kz - 1) zOp).length = i + kz := by rw [List.length_append, List.length_cons, List.length_take, List.length_replicate]; omega
  have hcp2 := fun (V : World) (hV : Rw E5 30 V w.heap.size c2 (l.take i ++ o :: List.replicate (kz - 1) zOp)) (hVo : Rw E5 30 V g cap l) ty => rw_copy (P := Tryz.prog) (ty := ty) (dT := 23) (sT := 23) Tryz.underlying23 sizeOp5 hV (i := i + 1) (dLen := i + kz - (i + 1)) (dCap := c2 - (i + 1)) (sLen := l.length - i) (sCap := cap - i) (a := ⟨g, i * 5, none⟩) (M := l.drop i) (by rw [List.length_drop, show Nat.min (l.length - i) (i + kz - (i + 1)) = l.length - i from Nat.min_eq_left (by omega)]) (by rw [hL2l, List.length_drop]; omega) (by
    intro j v hj
    rw [Addr.add_mid]
    obtain ⟨h1, h2, cur, hB, hcs, ht⟩ := hVo
    rw [hB.cell]
    rw [← E5.fl_drop, List.getElem?_drop] at hj
    have h3 := (List.getElem?_eq_some_iff.1 hj).1
    rw [E5.fl_len] at h3
    rw [← ht, List.getElem?_take_of_lt h3, show i * E5.k = i * 5 from rfl] at hj
    simpa using hj)
  have hL3 : ((l.take i ++ o :: List.replicate (kz - 1) zOp).take (i + 1) ++ l.drop i ++ (l.take i ++ o :: List.replicate (kz - 1) zOp).drop (i + 1 + (l.drop i).length)) = l.take i ++ o :: l.drop i := by
    have hti : (l.take i ++ [o]).length = i + 1 := by rw [List.length_append, List.length_take, List.length_singleton]; omega
    have e : l.take i ++ o :: List.replicate (kz - 1) zOp = (l.take i ++ [o]) ++ List.replicate (kz - 1) zOp := by simp
    have ed : (l.take i ++ [o] ++ List.replicate (kz - 1) zOp).drop (i + 1 + (l.drop i).length) = [] := List.drop_of_length_le (by rw [List.length_append, hti, List.length_replicate, List.length_drop]; omega)
    rw [e, ed, List.take_left' hti, List.append_nil, List.append_assoc]
    rfl
  rw [hL3] at hcp2
  generalize hn : l.length = n at *
  obtain ⟨n1, hn1⟩ : ∃ n1, n1 = n + 1 := ⟨_, rfl⟩
  obtain ⟨i1, hi1⟩ : ∃ i1, i1 = i + 1 := ⟨_, rfl⟩
  have hni : (n : Int) + 1 = (n1 : Int) := by omega
  have hii : (i : Int) + 1 = (i1 : Int) := by omega
  have hki : (n1 : Int) - (i : Int) = (kz : Int) := by omega
  have hin : ((i : Int) == (n : Int)) = false := by simp; omega
  have hcapi : (cap : Int) < (n1 : Int) := by omega
  obtain ⟨sv, hsv⟩ : ∃ sv, sliced (some ⟨g, 0, none⟩) i n cap 5 = sv := ⟨_, rfl⟩
  have HSV : Hid (sliced (some ⟨g, 0, none⟩) i n cap 5 = sv) := hsv
  obtain ⟨o1, es1, ho1⟩ := sliced_some w.heap.size 0 i (i + kz) c2 5
  have ho1' := ho1 (by omega)
  rw [Nat.zero_add] at ho1'
  subst ho1'
  obtain ⟨o2, es2, ho2⟩ := sliced_some w.heap.size 0 i1 (i + kz) c2 5
  have ho2' := ho2 (by omega)
  rw [Nat.zero_add] at ho2'
  subst ho2'
  obtain ⟨o3, es3, ho3⟩ := sliced_some g 0 i n cap 5
  have ho3' := ho3 (by omega)
  rw [Nat.zero_add] at ho3'
  subst ho3'
  have hle4 : i ≤ n := by omega
  have hle5 : i ≤ cap := by omega
  have hle6 : i ≤ i + kz := by omega
  have hle7 : i1 ≤ i + kz := by omega
  have HI1 : Hid (i1 = i + 1 ∧ n1 = n + 1 ∧ n + 1 = i + kz ∧ i < n) := ⟨hi1, hn1, by omega, hi⟩
  clear hsv hn1 hi1 ho1 ho2 ho3 hi hkz hz hr1 hr2 hcp1 hL hL2 hL2l hL3 hP1 hRo
  have HR2 : Hid (Rw E5 30 W2 w.heap.size c2 (l.take i ++ o :: List.replicate (kz - 1) zOp)) := hR2
  have HRO : Hid (Rw E5 30 W2 g cap l) := hRo2
  have HCP : Hid (∀ (V : World), Rw E5 30 V w.heap.size c2 (l.take i ++ o :: List.replicate (kz - 1) zOp) → Rw E5 30 V g cap l → ∀ ty, ∃ w', (Builtin.copy_ #[23, 23] ty #[.slice (some ⟨w.heap.size, (i + 1) * 5, none⟩) (i + kz - (i + 1)) (c2 - (i + 1)), .slice (some ⟨g, i * 5, none⟩) (n - i) (cap - i)]).run Tryz.prog V = .ok (goInt (Nat.min (n - i) (i + kz - (i + 1)))) w' ∧ Rw E5 30 w' w.heap.size c2 (l.take i ++ o :: l.drop i) ∧ Chg w.heap.size V w') := hcp2
  have HR1 : Hid (∀ ty, (Builtin.append_ #[23, 3] ty #[.slice (some ⟨g, 0, none⟩) i cap, .int .i64 (kz : Int)]).run Tryz.prog w = .ok (.slice (some ⟨w.heap.size, 0, none⟩) (i + kz) c2) W1) := hr1'
  have HC2 : Hid (∀ ty, (Builtin.copy_ #[23, 23] ty #[.slice (some ⟨w.heap.size, i * 5, none⟩) kz (c2 - i), .slice (some ⟨gp, 0, none⟩) 1 1]).run Tryz.prog W1 = .ok (goInt (Nat.min 1 kz)) W2) := by intro ty; have := hr2' ty; rwa [Nat.add_sub_cancel_left] at this
  clear hR2 hRo2 hcp2 hr1' hr2' hR hR1 hP hO
  go_enter Tryz.func96, Tryz.ntmps96
  go_upto_region 8 with (refine valS rfl sv ((slq_l rfl rfl rfl rfl eltO (sizeO _) hle4 hnc).trans (by rw [HSV.out])) ?_)
  go_upto_region 9 with fail
  go_upto_region 10 with (first
    | (refine valS rfl _ (slo_h (h := i) rfl rfl rfl rfl eltO (sizeO _) hle5) ?_)
    | (refine appz_l rfl rfl _ _ rfl rfl HR1.out ?_))
  go_upto_region 11 with (first
    | (refine valS rfl _ (slo_l (l := i) (o' := i * 5) rfl rfl rfl rfl eltO (sizeO _) hle6 hc2 es1) ?_)
    | (refine cp_l rfl rfl _ _ rfl rfl HC2.out ?_))
  obtain ⟨h1, h2, h3, h4⟩ := HI1.out
  have hRd : Rw E5 30 W2.drew w.heap.size c2 (l.take i ++ o :: List.replicate (kz - 1) zOp) := HR2.out
  have hRod : Rw E5 30 W2.drew g cap l := HRO.out
  have hbd : Below w.heap.size w W2.drew := ab_drew hb2
  have hc := HCP.out W2.drew hRd hRod
  obtain ⟨W3, hr3, hR3, C3⟩ := hc 0
  have hr3' : ∀ ty, (Builtin.copy_ #[23, 23] ty #[.slice (some ⟨w.heap.size, i1 * 5, none⟩) (i + kz - i1) (c2 - i1), .slice (some ⟨g, i * 5, none⟩) (n - i) (cap - i)]).run Tryz.prog W2.drew = .ok (goInt (Nat.min (n - i) (i + kz - i1))) W3 := fun ty => by rw [h1]; exact hr3
  have hb3 : Below w.heap.size w W3 := ab_chg hbd C3 (Nat.le_refl _)
  have hwi1 : IntKind.i64.wrap (i1 : Int) = (i1 : Int) := by
    simp [IntKind.wrap, IntKind.signed, IntKind.bits] <;> omega
  have HE : Hid (EO E5 30 W3 B (.slice (some ⟨w.heap.size, 0, none⟩) (i + kz) c2) (l.take i ++ o :: l.drop i)) := by
    have hll : (l.take i ++ o :: l.drop i).length = i + kz := by rw [List.length_append, List.length_cons, List.length_take, List.length_drop, hn]; omega
    have := hR3.eo hBw (i := i + kz) (by omega)
    rw [List.take_of_length_le (by omega)] at this
    exact this
  have H3 : Hid (n + 1 = i + kz) := h3
  clear hc hr3 hR3 C3 hRd hRod HCP HR2 HRO HR1 HC2 hb2 hbd h1 h2 h3 h4 HI1
  refine wp_region_held_drew (S := fun _ => True) (by kernel_rfl) trivial (fun hHeld => ?_)
  generalize W2.drew = V at *
  refine takeH (i := 0) (some 46) rfl rfl (by kernel_rfl) (by kernel_rfl) (by kernel_rfl) (fun _ _ _ h => h) (by rfl) (fun w hSw => by (try dsimp only at hSw); go_simp; try rfl) hHeld ?_
  go_frame
  refine takeH (i := 1) (some 47) rfl rfl (by kernel_rfl) (by kernel_rfl) (by kernel_rfl) (fun _ _ _ h => h) (by rfl) (fun w hSw => by (try dsimp only at hSw); go_simp; try rfl) hHeld ?_
  go_frame
  refine takeH (i := 2) (some 48) rfl rfl (by kernel_rfl) (by kernel_rfl) (by kernel_rfl) (fun _ _ _ h => h) (by rfl) (fun w hSw => by (try dsimp only at hSw); go_simp; try rfl) hHeld ?_
  go_frame
  refine takeH (i := 3) (some 49) rfl rfl (by kernel_rfl) (by kernel_rfl) (by kernel_rfl) (fun _ _ _ h => h) (by rfl) (fun w hSw => by (try dsimp only at hSw); go_simp; try rfl) hHeld ?_
  go_frame
  refine takeH (i := 4) (some 50) rfl rfl (by kernel_rfl) (by kernel_rfl) (by kernel_rfl) (fun _ _ _ h => h) (by rfl) (fun w hSw => by (try dsimp only at hSw); (exact slo_l (x := .tmp 46) (y := .tmp 49) rfl rfl rfl rfl eltO (sizeO _) hle7 hc2 es2)) hHeld ?_
  go_frame
  refine takeH (i := 5) (some 51) rfl rfl (by kernel_rfl) (by kernel_rfl) (by kernel_rfl) (fun _ _ _ h => h) (by rfl) (fun w hSw => by (try dsimp only at hSw); go_simp; try rfl) hHeld ?_
  go_frame
  refine takeH (i := 6) (some 52) rfl rfl (by kernel_rfl) (by kernel_rfl) (by kernel_rfl) (fun _ _ _ h => h) (by rfl) (fun w hSw => by (try dsimp only at hSw); go_simp; try rfl) hHeld ?_
  go_frame
  refine takeH (i := 7) (some 53) rfl rfl (by kernel_rfl) (by kernel_rfl) (by kernel_rfl) (fun _ _ _ h => h) (by rfl) (fun w hSw => by (try dsimp only at hSw); (exact slo_l (x := .tmp 51) (y := .tmp 52) rfl rfl rfl rfl eltO (sizeO _) hle4 hnc es3)) hHeld ?_
  go_frame
  refine wpAnyH_ready (rs := [8]) (by kernel_rfl) (by simp) (AllReadyH.cons rfl (fun K hK => ?_) AllReadyH.nil)
  rw [if_pos (by rfl)]
  refine cpW (some 54) rfl rfl _ _ rfl rfl hr3' ?_
  refine hK.out _ _ trivial (fun hHeld => ?_)
  clear hK K hr3'
  refine wpAnyH_done (by kernel_rfl) ?_ _
  go_wp2_with fail
  go_ret
  have h3 := H3.out
  rw [h3]
  exact ⟨c2, rfl, HE.out, hb3⟩
end Go.Proofs.YthmolbcnbcajdaaGreat
namespace Go.Proofs.YthmolbcnbcajdaaGreat
open Go.RowKit
set_option linter.unusedVariables false
set_option maxRecDepth 100000

theorem sinsert_gen (l : List Op5) (o : Op5) (v : Value) (gp B i : Nat) (w : World) (hO : EO E5 30 w B v l) (hP : Blk w gp (opA o) 30) (hF : FndP l o.s i) (hl : l.length ≤ 100000) (hB : B ≤ w.heap.size) (hne : v.ownBlock ≠ some gp) :
    Calls Tryz.prog 96 #[v, .int .i64 (i : Int), .slice (some ⟨gp, 0, none⟩) 1 1] w fun e w' => ∃ v', e = .returned v' ∧ EO E5 30 w' B v' (insO l o) ∧ Frm (fun k => v.ownBlock = some k) w w' ∧ ∀ r, v'.ownBlock = some r → v.ownBlock = some r ∨ w.heap.size ≤ r := by
  have hI : insO l o = l.take i ++ o :: l.drop i := by
    unfold insO
    rw [(fnd_cut hF).1, (fnd_cut hF).2]
  rw [hI]
  have hle := hF.le
  by_cases c : i = l.length
  · subst c
    rw [List.take_of_length_le (Nat.le_refl _), List.drop_of_length_le (Nat.le_refl _)]
    exact sinsert_end l o v gp B w hO hP hl hB
  · obtain ⟨g, cap, rfl⟩ := hO.at0 (by omega)
    by_cases hc : l.length + 1 ≤ cap
    · refine (sinsert_room l o g gp cap i B w hO hP (fun e => hne (by rw [e]; rfl)) hl (by omega) hc).mono ?_
      rintro e w' ⟨rfl, h1, h2⟩
      exact ⟨_, rfl, h1, h2.mono (fun k hk => by rw [hk]; rfl), fun r hr => .inl hr⟩
    · refine (sinsert_grow l o g gp cap i B w hO hP hl (by omega) (by omega) hB).mono ?_
      rintro e w' ⟨c2, rfl, h1, h2⟩
      refine ⟨_, rfl, h1, frm_below h2, fun r hr => .inr ?_⟩
      have : w.heap.size = r := by simpa [Value.ownBlock] using hr
      omega
set_option maxHeartbeats 4000000 in
theorem sinsert_mid (l : List Op5) (o : Op5) (v : Value) (B : Nat) (w : World) (hO : EO E5 30 w B v l) (hl : l.length ≤ 100000) (hs : l.Pairwise fun a b => a.s < b.s) (hB : B ≤ w.heap.size) :
    Calls Tryz.prog 74 #[v, opV o] w fun e w' => ∃ v', e = .returned v' ∧ EO E5 30 w' B v' (insO l o) ∧ Frm (fun k => v.ownBlock = some k) w w' ∧ ∀ r, v'.ownBlock = some r → v.ownBlock = some r ∨ w.heap.size ≤ r := by
  obtain ⟨A, hE, hX, hw⟩ := blk1 w (opA o) 30
  have hl6 : l.length ≤ 1000000 := by omega
  have hO := hO.keep hw
  have hBA := Nat.le_trans hB hw.size
  have r0 : ∀ V, Below A.heap.size A V → V.cell? ⟨w.heap.size, 0, none⟩ = some (.int .i64 o.s) := fun V h => (hX.keep h).at rfl
  have r1 : ∀ V, Below A.heap.size A V → V.cell? ⟨w.heap.size, 1, none⟩ = some (.int .i64 o.k) := fun V h => (hX.keep h).at rfl
  have r2 : ∀ V, Below A.heap.size A V → V.cell? ⟨w.heap.size, 2, none⟩ = some (.int .i64 o.t) := fun V h => (hX.keep h).at rfl
  have r3 : ∀ V, Below A.heap.size A V → V.cell? ⟨w.heap.size, 3, none⟩ = some (.int .i64 o.y) := fun V h => (hX.keep h).at rfl
  have r4 : ∀ V, Below A.heap.size A V → V.cell? ⟨w.heap.size, 4, none⟩ = some (.int .i64 o.v) := fun V h => (hX.keep h).at rfl
  unfold opA at hE
  unfold opV opA
  go_enter Tryz.func74, Tryz.ntmps74
  go_upto_region 1 with fail
  clear hE
  refine region_L 7 (S := fun w' => Below A.heap.size A w') (by kernel_rfl) ((Below.refl _ _).drew) (fun hHeld => ?_)
  refine takeP (i := 0) (some 5) (by rfl) rfl rfl (by kernel_rfl) (by kernel_rfl) (by kernel_rfl) (fun _ _ _ h => h) (by rfl) (fun w => by go_simp; try rfl) hHeld ?_
  go_frame
  refine takeP (i := 1) (some 6) (by rfl) rfl rfl (by kernel_rfl) (by kernel_rfl) (by kernel_rfl) (fun _ _ _ h => h) (by rfl) (fun w => by go_simp; try rfl) hHeld ?_
  go_frame
  refine takeP (i := 2) (some 7) (by rfl) rfl rfl (by kernel_rfl) (by kernel_rfl) (by kernel_rfl) (fun _ _ _ h => h) (by rfl) (fun w => by go_simp; try rfl) hHeld ?_
  go_frame
  refine takeL (i := 3) [4, 7] (some 8) (by rfl) rfl rfl (by kernel_rfl) (by kernel_rfl) (by kernel_rfl) (by kernel_rfl) (fun _ _ _ h => h) (by rfl) (fun w hSw => by (try dsimp only at hSw); (have y0 := r0 _ hSw; go_simp; try rfl)) hHeld ?_
  go_frame
  refine takeL (i := 5) [6, 7] (some 10) (by rfl) rfl rfl (by kernel_rfl) (by kernel_rfl) (by kernel_rfl) (by kernel_rfl) (fun _ _ _ h => h) (by rfl) (fun w hSw => by (try dsimp only at hSw); (have y0 := r0 _ hSw; have y1 := r1 _ hSw; have y2 := r2 _ hSw; have y3 := r3 _ hSw; have y4 := r4 _ hSw; go_simp; try rfl)) hHeld ?_
  go_frame
  refine anyL_ready (rs := [4, 6]) (by kernel_rfl) (by simp) (AllL.cons rfl (fun K hK => ?_) (AllL.cons rfl (fun K hK => ?_) AllL.nil))
  · go_simp
    refine (sfind_any _ l o.s _ (hO.er.keep hHeld) hl6 hs).mono ?_
    rintro e Wn ⟨i, rfl, hF, bn⟩
    show K _ _
    refine hK.out _ _ (ab_trans hHeld bn) (fun hHeld => ?_)
    clear hK K bn
    try go_frame
    refine anyL_ready (rs := [6]) (by kernel_rfl) (by simp) (AllL.cons rfl (fun K hK => ?_) AllL.nil)
    rw [if_pos (by rfl)]
    refine bopW (some 11) rfl rfl o (by simp only [List.map_toArray, List.map_cons, List.map_nil]; rfl) fun W5 hP bn => ?_
    have hG : A.heap.size ≤ _ := hHeld.size
    refine hK.out _ _ (ab_trans hHeld bn) (fun hHeld => ?_)
    clear hK K bn
    try go_frame
    refine anyL_ready (rs := [7]) (by kernel_rfl) (by simp) (AllL.last rfl (by kernel_rfl) (fun K hK => ?_))
    go_simp
    refine (sinsert_gen l o _ _ _ i _ (hO.keep hHeld) hP hF hl (Nat.le_trans hBA hHeld.size) (fun e => by have h9 := (World.ownsRow.lt hO _ e).2; omega)).mono ?_
    rintro e W6 ⟨v6, rfl, hO6, hf6, hn6⟩
    show K _ _
    refine hK.out _ _ ?_
    clear hK K
    try go_frame
    refine anyL_ready (rs := [8]) (by kernel_rfl) (by simp) (AllL.free rfl (by kernel_rfl) (fun K hK => ?_))
    go_simp
    refine hK.out _ _ ?_
    clear hK K
    refine anyL_done (by kernel_rfl) ?_
    go_wp2_with fail
    go_ret
    have hAf : Frm (fun k => v.ownBlock = some k) w _ := frm_below (ab_trans hw hHeld)
    exact ⟨_, rfl, hO6, hAf.trans hf6, fun r hr => (hn6 r hr).imp_right (fun h => Nat.le_trans hAf.size h)⟩
  · rw [if_pos (by rfl)]
    refine bopW (some 11) rfl rfl o (by simp only [List.map_toArray, List.map_cons, List.map_nil]; rfl) fun W5 hP bn => ?_
    have hG : A.heap.size ≤ _ := hHeld.size
    refine hK.out _ _ (ab_trans hHeld bn) (fun hHeld => ?_)
    clear hK K bn
    try go_frame
    refine anyL_ready (rs := [4]) (by kernel_rfl) (by simp) (AllL.cons rfl (fun K hK => ?_) AllL.nil)
    go_simp
    refine (sfind_any _ l o.s _ (hO.er.keep hHeld) hl6 hs).mono ?_
    rintro e Wn ⟨i, rfl, hF, bn⟩
    have hP := hP.keep bn
    show K _ _
    refine hK.out _ _ (ab_trans hHeld bn) (fun hHeld => ?_)
    clear hK K bn
    try go_frame
    refine anyL_ready (rs := [7]) (by kernel_rfl) (by simp) (AllL.last rfl (by kernel_rfl) (fun K hK => ?_))
    go_simp
    refine (sinsert_gen l o _ _ _ i _ (hO.keep hHeld) hP hF hl (Nat.le_trans hBA hHeld.size) (fun e => by have h9 := (World.ownsRow.lt hO _ e).2; omega)).mono ?_
    rintro e W6 ⟨v6, rfl, hO6, hf6, hn6⟩
    show K _ _
    refine hK.out _ _ ?_
    clear hK K
    try go_frame
    refine anyL_ready (rs := [8]) (by kernel_rfl) (by simp) (AllL.free rfl (by kernel_rfl) (fun K hK => ?_))
    go_simp
    refine hK.out _ _ ?_
    clear hK K
    refine anyL_done (by kernel_rfl) ?_
    go_wp2_with fail
    go_ret
    have hAf : Frm (fun k => v.ownBlock = some k) w _ := frm_below (ab_trans hw hHeld)
    exact ⟨_, rfl, hO6, hAf.trans hf6, fun r hr => (hn6 r hr).imp_right (fun h => Nat.le_trans hAf.size h)⟩
theorem insC_any {l : List Op5} {o : Op5} (hl : l.length ≤ 100000) (hs : l.Pairwise fun a b => a.s < b.s) : InsC l o := fun v B w hO hB => sinsert_mid l o v B w hO hl hs hB
end Go.Proofs.YthmolbcnbcajdaaGreat
