/-
  slices.Insert of one operation in the middle of a row that has room.
-/
import Derived.Test.YthmolbcnbcajdaaGreatPk29
import Derived.Lib.Overlaps
namespace Go.Proofs.YthmolbcnbcajdaaGreat
open Go.RowKit
set_option linter.unusedVariables false
set_option maxRecDepth 100000

theorem shape_blk {W : World} {b : Nat} {vs : Array Value} {t : TypeId} (h : Blk W b vs t) : W.shape? b = some (t, vs.size) := by
  unfold World.shape?
  have h' : W.heap[b]? = _ := h
  simp [h']
theorem sover_run (w : World) (gp g off la ca lb cb : Nat) (x y : Array Value) (hx : Blk w gp x 30) (hy : Blk w g y 30) (hne : gp ≠ g) (hs : y.size ≠ 0) :
    (callFunc 108 #[.slice (some ⟨gp, 0, none⟩) la ca, .slice (some ⟨g, off, none⟩) lb cb]).run Tryz.prog w = .ok (.value (.bool false)) w := by
  rw [@run_callFunc_extern Tryz.prog 108 _ (Extern.SlicesOverlaps.overlaps #[23, 23] #[4]) Tryz.func108 (by kernel_rfl) (by kernel_rfl) (by kernel_rfl) (by kernel_rfl),
    Lib.run_overlaps_apart w 23 4 30 Tryz.underlying23 5 (fun w => by kernel_rfl) ⟨gp, 0, none⟩ ⟨g, off, none⟩ la ca lb cb hne 30 30 x.size y.size (shape_blk hx) (shape_blk hy) hs (hx.frozen 0) (hx.frozen _)]
  rfl
/-- What the two copies leave. -/
theorem ins_cells {cur : List Value} {l : List Op5} {o : Op5} {n i : Nat} (h : cur.take (n * 5) = E5.fl l) (hl : l.length = n) (hi : i < n) (hc : (n + 1) * 5 ≤ cur.length) :
    ((cur.take ((i + 1) * 5) ++ E5.fl (l.drop i) ++ cur.drop ((i + 1) * 5 + (E5.fl (l.drop i)).length)).take (i * 5) ++ E5.f o ++ (cur.take ((i + 1) * 5) ++ E5.fl (l.drop i) ++ cur.drop ((i + 1) * 5 + (E5.fl (l.drop i)).length)).drop (i * 5 + (E5.f o).length)).take ((n + 1) * 5) = E5.fl (l.take i ++ o :: l.drop i) := by
  have h1 : (cur.take ((i + 1) * 5)).length = (i + 1) * 5 := by rw [List.length_take]; omega
  have ho : (E5.f o).length = 5 := rfl
  have e1 : (cur.take ((i + 1) * 5) ++ E5.fl (l.drop i) ++ cur.drop ((i + 1) * 5 + (E5.fl (l.drop i)).length)).take (i * 5) = E5.fl (l.take i) := by
    rw [List.append_assoc, List.take_append_of_le_length (by omega), List.take_take, Nat.min_eq_left (by omega)]
    have := E5.fl_take l i
    rw [show i * E5.k = i * 5 from rfl, ← h, List.take_take, Nat.min_eq_left (by omega)] at this
    exact this
  have e2 : (cur.take ((i + 1) * 5) ++ E5.fl (l.drop i) ++ cur.drop ((i + 1) * 5 + (E5.fl (l.drop i)).length)).drop (i * 5 + 5) = E5.fl (l.drop i) ++ cur.drop ((i + 1) * 5 + (E5.fl (l.drop i)).length) := by
    rw [List.append_assoc, List.drop_left' (by omega)]
  have e3 : E5.fl (l.take i ++ o :: l.drop i) = E5.fl (l.take i) ++ (E5.f o ++ E5.fl (l.drop i)) := by rw [E5.fl_append, E5.fl_cons]
  rw [ho, e1, e2, e3, List.append_assoc, ← List.append_assoc (E5.f o), ← List.append_assoc, List.take_left']
  rw [List.length_append, List.length_append, E5.fl_len, E5.fl_len, List.length_take, List.length_drop, ho, hl, show E5.k = 5 from rfl]
  omega
set_option maxHeartbeats 4000000 in
theorem sinsert_room (l : List Op5) (o : Op5) (g gp cap i B : Nat) (w : World) (hO : EO E5 30 w B (.slice (some ⟨g, 0, none⟩) l.length cap) l) (hP : Blk w gp (opA o) 30) (hne : gp ≠ g) (hl : l.length ≤ 100000) (hi : i < l.length) (hc : l.length + 1 ≤ cap) :
    Calls Tryz.prog 96 #[.slice (some ⟨g, 0, none⟩) l.length cap, .int .i64 (i : Int), .slice (some ⟨gp, 0, none⟩) 1 1] w fun e w' => e = .returned (.slice (some ⟨g, 0, none⟩) (l.length + 1) cap) ∧ EO E5 30 w' B (.slice (some ⟨g, 0, none⟩) (l.length + 1) cap) (l.take i ++ o :: l.drop i) ∧ Frm (fun k => k = g) w w' := by
  obtain ⟨⟨hnc, hcm, cur, hB, hcs, ht⟩, hBg⟩ := hO.rw
  have hcm' : cap ≤ 9223372036854775807 := hcm
  generalize hn : l.length = n at *
  have hcl : (n + 1) * 5 ≤ cur.toList.length := by rw [Array.length_toList, hcs]; show _ ≤ cap * 5; omega
  have hcells := ins_cells (o := o) ht hn hi hcl
  obtain ⟨n1, hn1⟩ : ∃ n1, n1 = n + 1 := ⟨_, rfl⟩
  obtain ⟨i1, hi1⟩ : ∃ i1, i1 = i + 1 := ⟨_, rfl⟩
  have hni : (n : Int) + 1 = (n1 : Int) := by omega
  have hii : (i : Int) + 1 = (i1 : Int) := by omega
  have hin : ((i : Int) == (n : Int)) = false := by simp; omega
  have hcapi : ¬ ((cap : Int) < (n1 : Int)) := by omega
  obtain ⟨sv, hsv⟩ : ∃ sv, sliced (some ⟨g, 0, none⟩) i n cap 5 = sv := ⟨_, rfl⟩
  have HSV : Hid (sliced (some ⟨g, 0, none⟩) i n cap 5 = sv) := hsv
  obtain ⟨o1, es1, ho1⟩ := sliced_some g 0 i1 n1 cap 5
  have ho1' := ho1 (by omega)
  rw [Nat.zero_add] at ho1'
  subst ho1'
  obtain ⟨o2, es2, ho2⟩ := sliced_some g 0 i n1 cap 5
  have ho2' := ho2 (by omega)
  rw [Nat.zero_add] at ho2'
  subst ho2'
  have hov := fun (lb cb : Nat) => sover_run w gp g (i1 * 5) 1 1 lb cb _ _ hP hB hne (by rw [hcs]; show cap * 5 ≠ 0; omega)
  have HIn : Hid (i < n) := hi
  have HI1 : Hid (i1 = i + 1 ∧ n1 = n + 1) := ⟨hi1, hn1⟩
  have hle1 : i1 ≤ n1 := by omega
  have hle2 : n1 ≤ cap := by omega
  have hle3 : i ≤ n1 := by omega
  have hle4 : i ≤ n := by omega
  clear hsv hn1 hi1 ho1 ho2 hi
  go_enter Tryz.func96, Tryz.ntmps96
  go_upto_region 15 with (first
    | (refine valS rfl sv ((slq_l rfl rfl rfl rfl eltO (sizeO _) hle4 hnc).trans (by rw [HSV.out])) ?_)
    | (refine valS rfl _ (slo_h (h := n1) rfl rfl rfl rfl eltO (sizeO _) hle2) ?_)
    | (refine valS rfl _ (slo_l (l := i1) (o' := i1 * 5) rfl rfl rfl rfl eltO (sizeO _) hle1 hle2 es1) ?_))
  have hdl : (E5.fl (l.drop i)).length = (n - i) * 5 := by rw [E5.fl_len, List.length_drop, hn]; rfl
  have hr1 := fun (V : World) (hV : Blk V g cur 30) ty => run_copy_rowK (P := Tryz.prog) V 23 23 ty 30 5 g (i1 * 5) (n1 - i1) (cap - i1) ⟨g, i * 5, none⟩ (n1 - i) (cap - i) cur 30 (E5.fl (l.drop i)) Tryz.underlying23 sizeOp5 hV (by
      have h1 := HI1.out
      have h2 := HIn.out
      rw [hdl, show Nat.min (n1 - i) (n1 - i1) = n - i by rw [show n1 - i1 = n - i by omega]; exact Nat.min_eq_right (by omega)]) (by
      intro j v hj
      have hjl := (List.getElem?_eq_some_iff.1 hj).1
      rw [Addr.add_mid, hV.cell]
      rw [← E5.fl_drop, List.getElem?_drop] at hj
      have h3 := (List.getElem?_eq_some_iff.1 hj).1
      rw [E5.fl_len, hn] at h3
      rw [← ht, List.getElem?_take_of_lt h3, show i * E5.k = i * 5 from rfl] at hj
      simpa using hj) (by
      have h1 := HI1.out
      have h2 := HIn.out
      rw [hdl, hcs]; show i1 * 5 + (n - i) * 5 ≤ cap * 5; omega) (E5.fl_cell _)
  have hi1e := HI1.out.1
  obtain ⟨cur1, hcur1⟩ : ∃ cur1 : List Value, cur1 = cur.toList.take ((i + 1) * 5) ++ E5.fl (l.drop i) ++ cur.toList.drop ((i + 1) * 5 + (E5.fl (l.drop i)).length) := ⟨_, rfl⟩
  have hr1' : ∀ (V : World), Blk V g cur 30 → ∀ ty, (Builtin.copy_ #[23, 23] ty #[.slice (some ⟨g, i1 * 5, none⟩) (n1 - i1) (cap - i1), .slice (some ⟨g, i * 5, none⟩) (n1 - i) (cap - i)]).run Tryz.prog V = .ok (goInt (Nat.min (n1 - i) (n1 - i1))) (V.setRow g cur1.toArray) := fun V hV ty => by
    rw [hr1 V hV ty, hcur1, hi1e]
  rw [← hcur1] at hcells
  have hl1 : cur1.length = cap * 5 := by
    have h2 := HIn.out
    rw [hcur1, List.length_append, List.length_append, List.length_take, List.length_drop, hdl, Array.length_toList, hcs, show E5.k = 5 from rfl]
    omega
  have hwi1 : IntKind.i64.wrap (i1 : Int) = (i1 : Int) := by
    have h2 := HIn.out
    simp [IntKind.wrap, IntKind.signed, IntKind.bits] <;> omega
  clear hr1 hdl ht hi1e hov hcl
  refine wp_region_held_drew (S := fun _ => True) (by kernel_rfl) trivial (fun hHeld => ?_)
  have hBV : Blk w.drew g cur 30 := hB
  have hPV : Blk w.drew gp (opA o) 30 := hP
  have hfV : Frm (fun k => k = g) w w.drew := frm_below (ab_drew (Below.refl _ _))
  generalize w.drew = V at *
  refine takeH (i := 0) (some 69) rfl rfl (by kernel_rfl) (by kernel_rfl) (by kernel_rfl) (fun _ _ _ h => h) (by rfl) (fun w hSw => by (try dsimp only at hSw); go_simp; try rfl) hHeld ?_
  go_frame
  refine takeH (i := 1) (some 70) rfl rfl (by kernel_rfl) (by kernel_rfl) (by kernel_rfl) (fun _ _ _ h => h) (by rfl) (fun w hSw => by (try dsimp only at hSw); go_simp; try rfl) hHeld ?_
  go_frame
  refine takeH (i := 2) (some 71) rfl rfl (by kernel_rfl) (by kernel_rfl) (by kernel_rfl) (fun _ _ _ h => h) (by rfl) (fun w hSw => by (try dsimp only at hSw); go_simp; try rfl) hHeld ?_
  go_frame
  refine takeH (i := 3) (some 72) rfl rfl (by kernel_rfl) (by kernel_rfl) (by kernel_rfl) (fun _ _ _ h => h) (by rfl) (fun w hSw => by (try dsimp only at hSw); go_simp; try rfl) hHeld ?_
  go_frame
  refine takeH (i := 4) (some 73) rfl rfl (by kernel_rfl) (by kernel_rfl) (by kernel_rfl) (fun _ _ _ h => h) (by rfl) (fun w hSw => by (try dsimp only at hSw); (exact slo_l (x := .tmp 69) (y := .tmp 72) rfl rfl rfl rfl eltO (sizeO _) hle1 hle2 es1)) hHeld ?_
  go_frame
  refine takeH (i := 5) (some 74) rfl rfl (by kernel_rfl) (by kernel_rfl) (by kernel_rfl) (fun _ _ _ h => h) (by rfl) (fun w hSw => by (try dsimp only at hSw); go_simp; try rfl) hHeld ?_
  go_frame
  refine takeH (i := 6) (some 75) rfl rfl (by kernel_rfl) (by kernel_rfl) (by kernel_rfl) (fun _ _ _ h => h) (by rfl) (fun w hSw => by (try dsimp only at hSw); go_simp; try rfl) hHeld ?_
  go_frame
  refine takeH (i := 7) (some 76) rfl rfl (by kernel_rfl) (by kernel_rfl) (by kernel_rfl) (fun _ _ _ h => h) (by rfl) (fun w hSw => by (try dsimp only at hSw); (exact slo_l (x := .tmp 74) (y := .tmp 75) rfl rfl rfl rfl eltO (sizeO _) hle3 hle2 es2)) hHeld ?_
  go_frame
  refine wpAnyH_ready (rs := [8]) (by kernel_rfl) (by simp) (AllReadyH.cons rfl (fun K hK => ?_) AllReadyH.nil)
  rw [if_pos (by rfl)]
  refine cpW (some 77) rfl rfl _ _ rfl rfl (hr1' V hBV) ?_
  have hB1 : Blk (V.setRow g cur1.toArray) g cur1.toArray 30 := blk_setRow hBV _
  have C1 := chg_setRow V g cur1.toArray
  have hP1 := hPV.chg C1 hne
  have hf1 := hfV.trans (frm_chg (X := fun k => k = g) C1 rfl)
  refine hK.out _ _ trivial (fun hHeld => ?_)
  clear hK K hr1' hBV hPV hfV C1
  generalize V.setRow g cur1.toArray = W1 at *
  refine wpAnyH_done (by kernel_rfl) ?_ _
  have hr2 := fun ty => run_copy_rowK (P := Tryz.prog) W1 23 23 ty 30 5 g (i * 5) (n1 - i) (cap - i) ⟨gp, 0, none⟩ 1 1 cur1.toArray 30 (E5.f o) Tryz.underlying23 sizeOp5 hB1 (by
      have h1 := HI1.out
      have h2 := HIn.out
      rw [show Nat.min 1 (n1 - i) = 1 from Nat.min_eq_left (by omega)]; rfl) (by
      intro j v hj
      rw [Addr.add_mid, Nat.zero_add, hP1.cell]
      have : (opA o).toList[j]? = some v := hj
      simpa using this) (by
      have h1 := HI1.out
      have h2 := HIn.out
      rw [List.size_toArray, hl1]; show i * 5 + 5 ≤ cap * 5; omega) (E5.one o)
  obtain ⟨cur2, hcur2⟩ : ∃ cur2 : List Value, cur2 = cur1.take (i * 5) ++ E5.f o ++ cur1.drop (i * 5 + (E5.f o).length) := ⟨_, rfl⟩
  have hr2' : ∀ ty, (Builtin.copy_ #[23, 23] ty #[.slice (some ⟨g, i * 5, none⟩) (n1 - i) (cap - i), .slice (some ⟨gp, 0, none⟩) 1 1]).run Tryz.prog W1 = .ok (goInt (Nat.min 1 (n1 - i))) (W1.setRow g cur2.toArray) := fun ty => by
    rw [hr2 ty, hcur2]
  rw [← hcur2] at hcells
  have hl2 : cur2.length = cap * 5 := by
    have h2 := HIn.out
    rw [hcur2, List.length_append, List.length_append, List.length_take, List.length_drop, show (E5.f o).length = 5 from rfl, hl1]
    omega
  have hB2 : Blk (W1.setRow g cur2.toArray) g cur2.toArray 30 := blk_setRow hB1 _
  have C2 := chg_setRow W1 g cur2.toArray
  have hf2 := hf1.trans (frm_chg (X := fun k => k = g) C2 rfl)
  have hn1e := HI1.out.2
  have HE : Hid (EO E5 30 (W1.setRow g cur2.toArray) B (.slice (some ⟨g, 0, none⟩) n1 cap) (l.take i ++ o :: l.drop i)) := by
    have h2 := HIn.out
    refine eo_of (n := n1) ⟨?_, .inr ⟨g, cap, cur2.toArray, rfl, hBg, hB2, by omega, hcm, by rw [List.size_toArray, hl2]; rfl, ?_⟩⟩
    · rw [E5.fl_len, List.length_append, List.length_cons, List.length_take, List.length_drop, hn, hn1e]
      congr 1
      omega
    · rw [hn1e]; exact hcells
  clear hr2 hcells hB2 C2 hB1 hP1 hcur1 hcur2 hn1e
  generalize W1.setRow g cur2.toArray = W2 at *
  go_wp2_with (first
    | (refine valS rfl _ (slo_l (l := i) (o' := i * 5) rfl rfl rfl rfl eltO (sizeO _) hle3 hle2 es2) ?_)
    | (refine cp_l rfl rfl _ _ rfl rfl hr2' ?_))
  go_ret
  have hn1e := HI1.out.2
  rw [← hn1e]
  exact ⟨rfl, HE.out, hf2⟩
end Go.Proofs.YthmolbcnbcajdaaGreat
