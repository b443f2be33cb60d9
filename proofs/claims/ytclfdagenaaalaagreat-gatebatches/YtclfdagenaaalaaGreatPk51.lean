/-
  The document's Cell of layer 16: what the samples of a name come to.
-/
import Derived.Test.YtclfdagenaaalaaGreatPk48
import Derived.Test.YtclfdagenaaalaaGreatPk35
namespace Go.Proofs.YtclfdagenaaalaaGreat
open Go.RowKit Go.Shelf
set_option linter.unusedVariables false
set_option maxRecDepth 100000

def smA (x : Tok) : Array Value := #[.int .i64 x.2.1, .int .i64 x.2.2.s, .int .i64 x.2.2.k, .int .i64 x.2.2.t, .int .i64 x.2.2.y, .int .i64 x.2.2.v]
/-- Samples in memory, by what was taken. -/
def E6 : En Tok := ⟨6, fun x => (smA x).toList, fun _ => rfl, fun x u hu => by simp [smA] at hu; rcases hu with rfl | rfl | rfl | rfl | rfl | rfl <;> rfl, by omega⟩
theorem infoSm : (Tryz.prog.info? 127).map (fun i => (i.zero, i.size, i.bytes)) = some (some (.agg #[.int .i64 0, .int .i64 0, .int .i64 0, .int .i64 0, .int .i64 0, .int .i64 0]), 6, 48) := by kernel_rfl
theorem bs_sm1 (x : Tok) (w : World) : (Instr.buildSlice 145 1 #[(0, .agg (smA x))]).run Tryz.prog w = .ok (.slice (some ⟨w.heap.size, 0, none⟩) 1 1) (w.alloc (.cells (E6.f x).toArray 127)) := by kernel_rfl
theorem srow_E6 {W : World} {v : Value} {L : List Tok} (h : ER E6 W v L) (hf : ∀ x ∈ L, FitT x) : ∃ q cap g off, v = .slice q L.length cap ∧ (0 < L.length → q = some ⟨g, off, none⟩) ∧ (0 < L.length → g < W.heap.size) ∧ SRow W g off (L.map tkF) := by
  obtain ⟨q, cap, g, off, h1, h2, h3, h4, h5⟩ := h.at
  refine ⟨q, cap, g, off, h1, fun h => (h4 h).1, fun h => (h4 h).2, ?_⟩
  intro j s hj i hi
  rw [List.getElem?_map] at hj
  cases hx : L[j]? with
  | none => rw [hx] at hj; cases hj
  | some x =>
    rw [hx] at hj
    injection hj with hj
    subst hj
    have hF := hf x (List.mem_of_getElem? hx)
    have h6 : E6.k = 6 := rfl
    have := h5 j x hx i
    have hi' : i = 0 ∨ i = 1 ∨ i = 2 ∨ i = 3 ∨ i = 4 ∨ i = 5 := by omega
    rcases hi' with rfl | rfl | rfl | rfl | rfl | rfl
    · exact ⟨this _ rfl, hF.src⟩
    · exact ⟨this _ rfl, hF.op.s⟩
    · exact ⟨this _ rfl, hF.op.k⟩
    · exact ⟨this _ rfl, hF.op.t⟩
    · exact ⟨this _ rfl, hF.op.y⟩
    · exact ⟨this _ rfl, hF.op.v⟩
def flK (T : List Tok) (k : Kyy) : List Tok := T.filter fun x => decide (x.1 = k)
theorem flK_take {T : List Tok} {k : Kyy} {j : Nat} {x : Tok} (h : T[j]? = some x) : flK (T.take (j + 1)) k = flK (T.take j) k ++ (if x.1 = k then [x] else []) := by
  unfold flK
  rw [List.take_add_one, h, Option.toList_some, List.filter_append]
  by_cases c : x.1 = k <;> simp [c]
theorem flK_len (T : List Tok) (k : Kyy) : (flK T k).length ≤ T.length := List.length_filter_le _ _
theorem wf_sm {T : List Tok} {k : Kyy} (h : ∀ x ∈ T, FitT x) : ∀ c ∈ (smK T k).map oneS, Wf c := by
  intro c hc
  obtain ⟨s, hs, rfl⟩ := List.mem_map.1 hc
  have := smK_fit h s hs
  exact wf_oneB _ _ _ _ this.1 this.2.1 this.2.2.1 this.2.2.2
set_option maxHeartbeats 2000000 in
theorem rcell16_any (b : Nat) (vt : Value) (T : List Tok) (k : Kyy) (w : World) (hb : b < w.heap.size) (h6 : w.cell? ⟨b, 6, none⟩ = some vt) (ht : ER E9 w vt T) (hT : T.length ≤ 2000) (hf : ∀ x ∈ T, FitT x) :
    Calls Tryz.prog 68 #[.pointer (some ⟨b, 0, none⟩), .agg #[.int .i64 k.1, .int .i64 k.2.1, .int .i64 k.2.2]] w fun e w' => e = .returned (.tuple #[.agg (CA (JL (smK T k))), .bool (decide (0 < (smK T k).length))]) ∧ Below w.heap.size w w' := by
  obtain ⟨q, cap, g, off, rfl, hc, hm, hp, hr⟩ := ht.at
  have HWf : Hid (∀ c ∈ (smK T k).map oneS, Wf c) := wf_sm hf
  have HF : Hid (∀ x ∈ flK T k, FitT x) := fun x hx => hf x (List.mem_filter.1 hx).1
  have HSm : Hid (smK T k = (flK T k).map tkF) := rfl
  clear ht hf
  generalize hn : T.length = n at *
  obtain ⟨k1, k2, k3⟩ := k
  try dsimp only at *
  obtain ⟨A, hE, hX, hw⟩ := blk1 w #[.int .i64 k1, .int .i64 k2, .int .i64 k3] 125
  go_enter Tryz.func68, Tryz.ntmps68
  go_upto_region 1 with (refine al_cell rfl rfl ?_; intro W1 e1 hR1 b1; clear e1)
  clear hE
  have hX1 := hX.keep b1
  have hw1 := ab_trans hw b1
  have hsA : w.heap.size < A.heap.size := hX.lt
  clear hX hw b1
  go_wp2_with fail
  go_loopw [6, 7] (fun v i wr => ∃ j : Nat, j ≤ n ∧ i = .int .i64 (j : Int) ∧ EO E6 127 wr W1.heap.size v (flK (T.take j) (k1, k2, k3)) ∧ Below W1.heap.size W1 wr) (fun _ i _ => n - (intOf i).toNat)
  case atStart => exact ⟨0, by omega, rfl, eo_nil _ _ _ _, Below.refl _ _⟩
  case round =>
    obtain ⟨j, hj, rfl, hO, hw2⟩ := hrel
    have hwr := ab_trans hw1 hw2
    have c6 := keep_cell hwr h6 hb
    by_cases c : j = n
    · subst c
      rw [List.take_of_length_le (by omega)] at hO
      have hR2 := hR1.keep hw2
      obtain ⟨q', cp, g', o', rfl, hp', hg', hrow⟩ := srow_E6 hO.er HF.out
      have HOf := rcof_any q' g' o' (flK T (k1, k2, k3)).length cp ((flK T (k1, k2, k3)).map tkF) wr (by rw [List.length_map]) (by have := flK_len T (k1, k2, k3); omega) hp' hg' hrow (by rw [← HSm.out]; exact HWf.out)
      have HJ : Hid (joinF (((flK T (k1, k2, k3)).map tkF).map oneS) = JL (smK T (k1, k2, k3))) := rfl
      have HL : Hid ((smK T (k1, k2, k3)).length = (flK T (k1, k2, k3)).length) := by show _ = _; rw [HSm.out, List.length_map]
      generalize joinF (((flK T (k1, k2, k3)).map tkF).map oneS) = JJ at *
      generalize (flK T (k1, k2, k3)).length = m at *
      have hwx : Hid (wr.heap.size = wr.heap.size) := rfl
      clear hr hp' hg' hrow hO HF
      by_cases m0 : 0 < m
      · have hm0 : (0 : Int) < (m : Int) := by omega
        go_wp2_with (first
          | (go_at_call 78; refine HOf.mono ?_; rintro e W4 ⟨rfl, b4⟩)
          | (have mk := b4; clear mk; refine st_cell rfl rfl (hR2.keep b4) rfl rfl ?_; intro W5 hR5 C5))
        exact bodyPost_ret (results_c2 rfl _ _ _ 77 _ (0, 0) _ (.bool true) rfl rfl hR5 Tryz.underlying77 rfl (info_cell JJ)) rfl ⟨by rw [← HJ.out, HL.out, decide_eq_true m0], ab_chg (ab_trans hwr b4) C5 (Nat.le_of_lt hsA)⟩
      · have hm0 : ¬ (0 : Int) < (m : Int) := by omega
        go_wp2_with (first
          | (go_at_call 78; refine HOf.mono ?_; rintro e W4 ⟨rfl, b4⟩)
          | (have mk := b4; clear mk; refine st_cell rfl rfl (hR2.keep b4) rfl rfl ?_; intro W5 hR5 C5))
        exact bodyPost_ret (results_c2 rfl _ _ _ 77 _ (0, 0) _ (.bool false) rfl rfl hR5 Tryz.underlying77 rfl (info_cell JJ)) rfl ⟨by rw [← HJ.out, HL.out, decide_eq_false m0], ab_chg (ab_trans hwr b4) C5 (Nat.le_of_lt hsA)⟩
    · obtain ⟨x, hx⟩ : ∃ x, T[j]? = some x := ⟨T[j], List.getElem?_eq_getElem (by omega)⟩
      obtain ⟨rfl, hgk⟩ := hp (by omega)
      have HZ : Hid (∀ V, Below wr.heap.size wr V → V.cell? ⟨b, 6, none⟩ = some (.slice (some ⟨g, off, none⟩) n cap) ∧ (V.cell? ⟨g, off + j * 9, none⟩ = some (.int .i64 x.1.1) ∧ V.cell? ⟨g, off + j * 9 + 1, none⟩ = some (.int .i64 x.1.2.1) ∧ V.cell? ⟨g, off + j * 9 + 2, none⟩ = some (.int .i64 x.1.2.2)) ∧ Blk V w.heap.size #[.int .i64 k1, .int .i64 k2, .int .i64 k3] 125) := fun V hV => by
        have h9 := ab_trans hwr hV
        have z0 := keep_cell h9 (hr j x hx 0 _ rfl) hgk
        rw [Nat.add_zero] at z0
        exact ⟨keep_cell h9 h6 hb, ⟨z0, keep_cell h9 (hr j x hx 1 _ rfl) hgk, keep_cell h9 (hr j x hx 2 _ rfl) hgk⟩, (hX1.keep hw2).keep hV⟩
      have HS : Hid (∀ V, Below wr.heap.size wr V → V.cell? ⟨g, off + j * 9 + 3, none⟩ = some (.int .i64 x.2.1) ∧ V.cell? ⟨g, off + j * 9 + 4, none⟩ = some (.int .i64 x.2.2.s) ∧ V.cell? ⟨g, off + j * 9 + 5, none⟩ = some (.int .i64 x.2.2.k) ∧ V.cell? ⟨g, off + j * 9 + 6, none⟩ = some (.int .i64 x.2.2.t) ∧ V.cell? ⟨g, off + j * 9 + 7, none⟩ = some (.int .i64 x.2.2.y) ∧ V.cell? ⟨g, off + j * 9 + 8, none⟩ = some (.int .i64 x.2.2.v)) := fun V hV => by
        have h9 := ab_trans hwr hV
        exact ⟨keep_cell h9 (hr j x hx 3 _ rfl) hgk, keep_cell h9 (hr j x hx 4 _ rfl) hgk, keep_cell h9 (hr j x hx 5 _ rfl) hgk, keep_cell h9 (hr j x hx 6 _ rfl) hgk, keep_cell h9 (hr j x hx 7 _ rfl) hgk, keep_cell h9 (hr j x hx 8 _ rfl) hgk⟩
      have hki : (j : Int) < (n : Int) := by omega
      have HM : Hid (flK (T.take (j + 1)) (k1, k2, k3) = flK (T.take j) (k1, k2, k3) ++ (if x.1 = (k1, k2, k3) then [x] else [])) := flK_take hx
      have HLn : Hid ((flK (T.take j) (k1, k2, k3)).length ≤ 2000) := Nat.le_trans (flK_len _ _) (by rw [List.length_take]; omega)
      have HO : Hid (∀ V, Below wr.heap.size wr V → EO E6 127 V W1.heap.size _ (flK (T.take j) (k1, k2, k3))) := fun V hV => hO.keep hV
      obtain ⟨qv, cv, hv⟩ := hO.form
      subst hv
      generalize (flK (T.take j) (k1, k2, k3)) = L at *
      generalize hm0 : L.length = m at *
      obtain ⟨⟨xa, xb, xc⟩, xs, ⟨os, ok, ot, oy, ov⟩⟩ := x
      try dsimp only at HZ HS HM
      have hW1r := hw2.size
      clear hr hx hO
      go_upto_region 5 with fail
      clear c6
      refine wp_region_held_drew (S := fun w' => Below wr.heap.size wr w') (by kernel_rfl) (ab_drew (Below.refl _ _)) (fun hHeld => ?_)
      refine takeH (i := 0) (some 17) rfl rfl (by kernel_rfl) (by kernel_rfl) (by kernel_rfl) (fun _ _ _ h => h) (by rfl) (fun w hSw => by (try dsimp only at hSw); go_simp; try rfl) hHeld ?_
      go_frame
      refine takeH (i := 1) (some 18) rfl rfl (by kernel_rfl) (by kernel_rfl) (by kernel_rfl) (fun _ _ _ h => h) (by rfl) (fun w hSw => by (try dsimp only at hSw); go_simp; try rfl) hHeld ?_
      go_frame
      refine takeH (i := 2) (some 19) rfl rfl (by kernel_rfl) (by kernel_rfl) (by kernel_rfl) (fun _ _ _ h => h) (by rfl) (fun w hSw => by (try dsimp only at hSw); go_simp; try rfl) hHeld ?_
      go_frame
      refine takeH (i := 3) (some 20) rfl rfl (by kernel_rfl) (by kernel_rfl) (by kernel_rfl) (fun _ _ _ h => h) (by rfl) (fun w hSw => by (try dsimp only at hSw); (have q6 := (HZ.out _ hSw).1; go_simp; try rfl)) hHeld ?_
      go_frame
      refine takeH (i := 4) (some 21) rfl rfl (by kernel_rfl) (by kernel_rfl) (by kernel_rfl) (fun _ _ _ h => h) (by rfl) (fun w hSw => by (try dsimp only at hSw); go_simp; try rfl) hHeld ?_
      go_frame
      refine takeH (i := 5) (some 22) rfl rfl (by kernel_rfl) (by kernel_rfl) (by kernel_rfl) (fun _ _ _ h => h) (by rfl) (fun w hSw => by (try dsimp only at hSw); go_simp; try rfl) hHeld ?_
      go_frame
      refine takeH (i := 6) (some 23) rfl rfl (by kernel_rfl) (by kernel_rfl) (by kernel_rfl) (fun _ _ _ h => h) (by rfl) (fun w hSw => by (try dsimp only at hSw); go_simp; try rfl) hHeld ?_
      go_frame
      refine takeH (i := 7) (some 24) rfl rfl (by kernel_rfl) (by kernel_rfl) (by kernel_rfl) (fun _ _ _ h => h) (by rfl) (fun w hSw => by (try dsimp only at hSw); (obtain ⟨-, ⟨q0, q1, q2⟩, -⟩ := HZ.out _ hSw; go_simp; try rfl)) hHeld ?_
      go_frame
      refine takeH (i := 8) (some 25) rfl rfl (by kernel_rfl) (by kernel_rfl) (by kernel_rfl) (fun _ _ _ h => h) (by rfl) (fun w hSw => by (try dsimp only at hSw); (have qb := (HZ.out _ hSw).2.2; have q0 := qb.at (i := 0) rfl; have q1 := qb.at (i := 1) rfl; have q2 := qb.at (i := 2) rfl; go_simp; try rfl)) hHeld ?_
      go_frame
      refine takeH (i := 9) (some 26) rfl rfl (by kernel_rfl) (by kernel_rfl) (by kernel_rfl) (fun _ _ _ h => h) (by rfl) (fun w hSw => by (try dsimp only at hSw); exact eqo_ky (a := (xa, xb, xc)) (b := (k1, k2, k3)) rfl rfl rfl _) hHeld ?_
      go_frame
      refine wpAnyH_done (by kernel_rfl) ?_ _
      have hO3 := HO.out _ hHeld
      have hwV := ab_trans hw2 hHeld
      by_cases e : ((xa, xb, xc) : Kyy) = (k1, k2, k3)
      · have HM2 : Hid (flK (T.take (j + 1)) (k1, k2, k3) = L ++ [((xa, xb, xc), xs, ⟨os, ok, ot, oy, ov⟩)]) := by show _ = _; rw [HM.out, if_pos e]
        rw [decide_eq_true e]
        obtain ⟨q6, -, -⟩ := HZ.out _ hHeld
        obtain ⟨s3, s4, s5, s6, s7, s8⟩ := HS.out _ hHeld
        clear HM e HZ HS HO
        go_wp2_with (first
          | (refine bsEl (E := E6) (e := 127) rfl rfl ((xa, xb, xc), xs, ⟨os, ok, ot, oy, ov⟩) (by simp only [List.map_toArray, List.map_cons, List.map_nil]; rfl) (fun w => bs_sm1 ((xa, xb, xc), xs, ⟨os, ok, ot, oy, ov⟩) w) ?_; intro W6 hB6 b6)
          | (at_builtin; refine app_e (E := E6) W1 rfl rfl Tryz.underlying145 infoSm rfl rfl (hO3.keep b6) rfl hB6.er ?c1 ?c2 (ab_trans hwV b6) ?_))
        case c1 => have := HLn.out; first | omega | (rw [List.length_singleton]; omega)
        case c2 => have := HLn.out; first | omega | (rw [List.length_singleton]; omega)
        intro v' W7 hown' hb7 hgr
        go_wp2_with fail
        go_roundw
        case rel => exact ⟨j + 1, by omega, by go_num, by rw [HM2.out]; exact hown', hb7⟩
        case measure => simp [intOf]; omega
      · have HM2 : Hid (flK (T.take (j + 1)) (k1, k2, k3) = L) := by show _ = _; rw [HM.out, if_neg e, List.append_nil]
        rw [decide_eq_false e]
        clear HM e HZ HS HO
        go_wp2_with fail
        go_roundw
        case rel => exact ⟨j + 1, by omega, by go_num, by rw [HM2.out]; exact hO3, hwV⟩
        case measure => simp [intOf]; omega
end Go.Proofs.YtclfdagenaaalaaGreat
