/-
  slices.Insert of one operation in the middle of a row that has no room: the walk.
-/
import Derived.Test.YteffpgodookebaaGreatPk43
namespace Go.Proofs.YteffpgodookebaaGreat
open Go.RowKit
set_option linter.unusedVariables false
set_option maxRecDepth 100000

set_option maxHeartbeats 1000000 in
theorem sinsert_grow (l : List Op5) (o : Op5) (g gp cap i B : Nat) (w : World) (hO : EO E5 49 w B (.slice (some ⟨g, 0, none⟩) l.length cap) l) (hP : Blk w gp (opA o) 49) (hl : l.length ≤ 100000) (hi : i < l.length) (hc : cap < l.length + 1) (hBw : B ≤ w.heap.size) :
    Calls Tryz.prog 156 #[.slice (some ⟨g, 0, none⟩) l.length cap, .int .i64 (i : Int), .slice (some ⟨gp, 0, none⟩) 1 1] w fun e w' => ∃ c2, e = .returned (.slice (some ⟨w.heap.size, 0, none⟩) (l.length + 1) c2) ∧ EO E5 49 w' B (.slice (some ⟨w.heap.size, 0, none⟩) (l.length + 1) c2) (l.take i ++ o :: l.drop i) ∧ Below w.heap.size w w' := by
  obtain ⟨hR, hBg⟩ := hO.rw
  have hnc := hR.1
  obtain ⟨kz, hkz⟩ : ∃ kz, l.length + 1 = i + kz := ⟨l.length + 1 - i, by omega⟩
  have hz := fun ty => app_zeros l g cap i kz w ty hR (by omega) (by omega) (by omega) (by omega)
  obtain ⟨c2, W1, hr1, hR1, b1⟩ := hz 0
  have hr1' : ∀ ty, (Builtin.append_ #[42, 3] ty #[.slice (some ⟨g, 0, none⟩) i cap, .int .i64 (kz : Int)]).run Tryz.prog w = .ok (.slice (some ⟨w.heap.size, 0, none⟩) (i + kz) c2) W1 := fun ty => hr1
  have hL : (l.take i ++ List.replicate kz zOp).length = i + kz := by rw [List.length_append, List.length_take, List.length_replicate]; omega
  have hc2 := hR1.1
  rw [hL] at hc2
  have hP1 := hP.keep b1
  have hRo := hR.keep b1
  have hc2m := hR1.2.1
  unfold maxLen at hc2m
  -- the first copy
  have hcp1 := fun ty => rw_copy (P := Tryz.prog) (ty := ty) (dT := 42) (sT := 42) Tryz.underlying42 sizeOp5 hR1 (i := i) (dLen := i + kz - i) (dCap := c2 - i) (sLen := 1) (sCap := 1) (a := ⟨gp, 0, none⟩) (M := [o]) (by rw [show Nat.min 1 (i + kz - i) = 1 from Nat.min_eq_left (by omega)]; rfl) (by rw [hL, List.length_singleton]; omega) (by
    intro j v hj
    rw [Addr.add_mid, Nat.zero_add, hP1.cell]
    rw [E5.fl_one1] at hj
    have : (opA o).toList[j]? = some v := hj
    simpa using this)
  obtain ⟨W2, hr2, hR2, C2⟩ := hcp1 0
  have hr2' : ∀ ty, (Builtin.copy_ #[42, 42] ty #[.slice (some ⟨w.heap.size, i * 5, none⟩) (i + kz - i) (c2 - i), .slice (some ⟨gp, 0, none⟩) 1 1]).run Tryz.prog W1 = .ok (goInt (Nat.min 1 (i + kz - i))) W2 := fun ty => hr2
  have hgn : g ≠ w.heap.size := Nat.ne_of_lt hR.lt
  have hRo2 : Rw E5 49 W2 g cap l := by
    obtain ⟨h1, h2, cur, hB, h3⟩ := hRo
    exact ⟨h1, h2, cur, hB.chg C2 hgn, h3⟩
  have hL2 : ((l.take i ++ List.replicate kz zOp).take i ++ [o] ++ (l.take i ++ List.replicate kz zOp).drop (i + 1)) = l.take i ++ o :: List.replicate (kz - 1) zOp := by
    have hti : (l.take i).length = i := by rw [List.length_take]; omega
    rw [List.take_left' hti, List.drop_append, hti, List.drop_of_length_le (by omega), List.nil_append, show i + 1 - i = 1 by omega, List.drop_replicate, List.append_assoc]
    rfl
  rw [List.length_singleton, hL2] at hR2
  have hb2 : Below w.heap.size w W2 := ab_chg b1 C2 (Nat.le_refl _)
  -- the second copy
  have hL2l : (l.take i ++ o :: List.replicate (kz - 1) zOp).length = i + kz := by rw [List.length_append, List.length_cons, List.length_take, List.length_replicate]; omega
  have hcp2 := fun (V : World) (hV : Rw E5 49 V w.heap.size c2 (l.take i ++ o :: List.replicate (kz - 1) zOp)) (hVo : Rw E5 49 V g cap l) ty => rw_copy (P := Tryz.prog) (ty := ty) (dT := 42) (sT := 42) Tryz.underlying42 sizeOp5 hV (i := i + 1) (dLen := i + kz - (i + 1)) (dCap := c2 - (i + 1)) (sLen := l.length - i) (sCap := cap - i) (a := ⟨g, i * 5, none⟩) (M := l.drop i) (by rw [List.length_drop, show Nat.min (l.length - i) (i + kz - (i + 1)) = l.length - i from Nat.min_eq_left (by omega)]) (by rw [hL2l, List.length_drop]; omega) (by
    intro j v hj
    rw [Addr.add_mid]
    obtain ⟨h1, h2, cur, hB, hcs, ht⟩ := hVo
    rw [hB.cell]
    rw [← E5.fl_drop, List.getElem?_drop] at hj
    have h3 := (List.getElem?_eq_some_iff.1 hj).1
    rw [E5.fl_len] at h3
    rw [← ht, List.getElem?_take_of_lt h3, show i * E5.k = i * 5 from rfl] at hj
    simpa using hj)
  have hL3 : ((l.take i ++ o :: List.replicate (kz - 1) zOp).take (i + 1) ++ l.drop i ++ (l.take i ++ o :: List.replicate (kz - 1) zOp).drop (i + 1 + (l.drop i).length)) = l.take i ++ o :: l.drop i := by
    have hti : (l.take i ++ [o]).length = i + 1 := by rw [List.length_append, List.length_take, List.length_singleton]; omega
    have e : l.take i ++ o :: List.replicate (kz - 1) zOp = (l.take i ++ [o]) ++ List.replicate (kz - 1) zOp := by simp
    have ed : (l.take i ++ [o] ++ List.replicate (kz - 1) zOp).drop (i + 1 + (l.drop i).length) = [] := List.drop_of_length_le (by rw [List.length_append, hti, List.length_replicate, List.length_drop]; omega)
    rw [e, ed, List.take_left' hti, List.append_nil, List.append_assoc]
    rfl
  rw [hL3] at hcp2
  generalize hn : l.length = n at *
  obtain ⟨n1, hn1⟩ : ∃ n1, n1 = n + 1 := ⟨_, rfl⟩
  obtain ⟨i1, hi1⟩ : ∃ i1, i1 = i + 1 := ⟨_, rfl⟩
  have hni : (n : Int) + 1 = (n1 : Int) := by omega
  have hii : (i : Int) + 1 = (i1 : Int) := by omega
  have hki : (n1 : Int) - (i : Int) = (kz : Int) := by omega
  have hin : ((i : Int) == (n : Int)) = false := by simp; omega
  have hcapi : (cap : Int) < (n1 : Int) := by omega
  obtain ⟨sv, hsv⟩ : ∃ sv, sliced (some ⟨g, 0, none⟩) i n cap 5 = sv := ⟨_, rfl⟩
  have HSV : Hid (sliced (some ⟨g, 0, none⟩) i n cap 5 = sv) := hsv
  obtain ⟨o1, es1, ho1⟩ := sliced_some w.heap.size 0 i (i + kz) c2 5
  have ho1' := ho1 (by omega)
  rw [Nat.zero_add] at ho1'
  subst ho1'
  obtain ⟨o2, es2, ho2⟩ := sliced_some w.heap.size 0 i1 (i + kz) c2 5
  have ho2' := ho2 (by omega)
  rw [Nat.zero_add] at ho2'
  subst ho2'
  obtain ⟨o3, es3, ho3⟩ := sliced_some g 0 i n cap 5
  have ho3' := ho3 (by omega)
  rw [Nat.zero_add] at ho3'
  subst ho3'
  have hle4 : i ≤ n := by omega
  have hle5 : i ≤ cap := by omega
  have hle6 : i ≤ i + kz := by omega
  have hle7 : i1 ≤ i + kz := by omega
  have HI1 : Hid (i1 = i + 1 ∧ n1 = n + 1 ∧ n + 1 = i + kz ∧ i < n) := ⟨hi1, hn1, by omega, hi⟩
  clear hsv hn1 hi1 ho1 ho2 ho3 hi hkz hz hr1 hr2 hcp1 hL hL2 hL2l hL3 hP1 hRo
  have HR2 : Hid (Rw E5 49 W2 w.heap.size c2 (l.take i ++ o :: List.replicate (kz - 1) zOp)) := hR2
  have HRO : Hid (Rw E5 49 W2 g cap l) := hRo2
  have HCP : Hid (∀ (V : World), Rw E5 49 V w.heap.size c2 (l.take i ++ o :: List.replicate (kz - 1) zOp) → Rw E5 49 V g cap l → ∀ ty, ∃ w', (Builtin.copy_ #[42, 42] ty #[.slice (some ⟨w.heap.size, (i + 1) * 5, none⟩) (i + kz - (i + 1)) (c2 - (i + 1)), .slice (some ⟨g, i * 5, none⟩) (n - i) (cap - i)]).run Tryz.prog V = .ok (goInt (Nat.min (n - i) (i + kz - (i + 1)))) w' ∧ Rw E5 49 w' w.heap.size c2 (l.take i ++ o :: l.drop i) ∧ Chg w.heap.size V w') := hcp2
  have HR1 : Hid (∀ ty, (Builtin.append_ #[42, 3] ty #[.slice (some ⟨g, 0, none⟩) i cap, .int .i64 (kz : Int)]).run Tryz.prog w = .ok (.slice (some ⟨w.heap.size, 0, none⟩) (i + kz) c2) W1) := hr1'
  have HC2 : Hid (∀ ty, (Builtin.copy_ #[42, 42] ty #[.slice (some ⟨w.heap.size, i * 5, none⟩) kz (c2 - i), .slice (some ⟨gp, 0, none⟩) 1 1]).run Tryz.prog W1 = .ok (goInt (Nat.min 1 kz)) W2) := by intro ty; have := hr2' ty; rwa [Nat.add_sub_cancel_left] at this
  clear hR2 hRo2 hcp2 hr1' hr2' hR hR1 hP hO
  go_enter Tryz.func156, Tryz.ntmps156
  go_upto_region 8 with (refine valS rfl sv ((slq_l rfl rfl rfl rfl eltO (sizeO _) hle4 hnc).trans (by rw [HSV.out])) ?_)
  go_upto_region 9 with fail
  go_upto_region 10 with (first
    | (refine valS rfl _ (slo_h (h := i) rfl rfl rfl rfl eltO (sizeO _) hle5) ?_)
    | (refine appz_l rfl rfl _ _ rfl rfl HR1.out ?_))
  go_upto_region 11 with (first
    | (refine valS rfl _ (slo_l (l := i) (o' := i * 5) rfl rfl rfl rfl eltO (sizeO _) hle6 hc2 es1) ?_)
    | (refine cp_l rfl rfl _ _ rfl rfl HC2.out ?_))
  obtain ⟨h1, h2, h3, h4⟩ := HI1.out
  have hRd : Rw E5 49 W2.drew w.heap.size c2 (l.take i ++ o :: List.replicate (kz - 1) zOp) := HR2.out
  have hRod : Rw E5 49 W2.drew g cap l := HRO.out
  have hbd : Below w.heap.size w W2.drew := ab_drew hb2
  have hc := HCP.out W2.drew hRd hRod
  obtain ⟨W3, hr3, hR3, C3⟩ := hc 0
  have hr3' : ∀ ty, (Builtin.copy_ #[42, 42] ty #[.slice (some ⟨w.heap.size, i1 * 5, none⟩) (i + kz - i1) (c2 - i1), .slice (some ⟨g, i * 5, none⟩) (n - i) (cap - i)]).run Tryz.prog W2.drew = .ok (goInt (Nat.min (n - i) (i + kz - i1))) W3 := fun ty => by rw [h1]; exact hr3
  have hb3 : Below w.heap.size w W3 := ab_chg hbd C3 (Nat.le_refl _)
  have hwi1 : IntKind.i64.wrap (i1 : Int) = (i1 : Int) := by
    simp [IntKind.wrap, IntKind.signed, IntKind.bits] <;> omega
  have HE : Hid (EO E5 49 W3 B (.slice (some ⟨w.heap.size, 0, none⟩) (i + kz) c2) (l.take i ++ o :: l.drop i)) := by
    have hll : (l.take i ++ o :: l.drop i).length = i + kz := by rw [List.length_append, List.length_cons, List.length_take, List.length_drop, hn]; omega
    have := hR3.eo hBw (i := i + kz) (by omega)
    rw [List.take_of_length_le (by omega)] at this
    exact this
  have H3 : Hid (n + 1 = i + kz) := h3
  clear hc hr3 hR3 C3 hRd hRod HCP HR2 HRO HR1 HC2 hb2 hbd h1 h2 h3 h4 HI1
  refine wp_region_held_drew (S := fun _ => True) (by kernel_rfl) trivial (fun hHeld => ?_)
  generalize W2.drew = V at *
  refine takeH (i := 0) (some 46) rfl rfl (by kernel_rfl) (by kernel_rfl) (by kernel_rfl) (fun _ _ _ h => h) (by rfl) (fun w hSw => by (try dsimp only at hSw); go_simp; try rfl) hHeld ?_
  go_frame
  refine takeH (i := 1) (some 47) rfl rfl (by kernel_rfl) (by kernel_rfl) (by kernel_rfl) (fun _ _ _ h => h) (by rfl) (fun w hSw => by (try dsimp only at hSw); go_simp; try rfl) hHeld ?_
  go_frame
  refine takeH (i := 2) (some 48) rfl rfl (by kernel_rfl) (by kernel_rfl) (by kernel_rfl) (fun _ _ _ h => h) (by rfl) (fun w hSw => by (try dsimp only at hSw); go_simp; try rfl) hHeld ?_
  go_frame
  refine takeH (i := 3) (some 49) rfl rfl (by kernel_rfl) (by kernel_rfl) (by kernel_rfl) (fun _ _ _ h => h) (by rfl) (fun w hSw => by (try dsimp only at hSw); go_simp; try rfl) hHeld ?_
  go_frame
  refine takeH (i := 4) (some 50) rfl rfl (by kernel_rfl) (by kernel_rfl) (by kernel_rfl) (fun _ _ _ h => h) (by rfl) (fun w hSw => by (try dsimp only at hSw); (exact slo_l (x := .tmp 46) (y := .tmp 49) rfl rfl rfl rfl eltO (sizeO _) hle7 hc2 es2)) hHeld ?_
  go_frame
  refine takeH (i := 5) (some 51) rfl rfl (by kernel_rfl) (by kernel_rfl) (by kernel_rfl) (fun _ _ _ h => h) (by rfl) (fun w hSw => by (try dsimp only at hSw); go_simp; try rfl) hHeld ?_
  go_frame
  refine takeH (i := 6) (some 52) rfl rfl (by kernel_rfl) (by kernel_rfl) (by kernel_rfl) (fun _ _ _ h => h) (by rfl) (fun w hSw => by (try dsimp only at hSw); go_simp; try rfl) hHeld ?_
  go_frame
  refine takeH (i := 7) (some 53) rfl rfl (by kernel_rfl) (by kernel_rfl) (by kernel_rfl) (fun _ _ _ h => h) (by rfl) (fun w hSw => by (try dsimp only at hSw); (exact slo_l (x := .tmp 51) (y := .tmp 52) rfl rfl rfl rfl eltO (sizeO _) hle4 hnc es3)) hHeld ?_
  go_frame
  refine wpAnyH_ready (rs := [8]) (by kernel_rfl) (by simp) (AllReadyH.cons rfl (fun K hK => ?_) AllReadyH.nil)
  rw [if_pos (by rfl)]
  refine cpW (some 54) rfl rfl _ _ rfl rfl hr3' ?_
  refine hK.out _ _ trivial (fun hHeld => ?_)
  clear hK K hr3'
  refine wpAnyH_done (by kernel_rfl) ?_ _
  go_wp2_with fail
  go_ret
  have h3 := H3.out
  rw [h3]
  exact ⟨c2, rfl, HE.out, hb3⟩
end Go.Proofs.YteffpgodookebaaGreat
