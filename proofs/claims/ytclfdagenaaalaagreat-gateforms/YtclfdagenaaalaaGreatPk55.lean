/-
  The document's Batch of layer 17: which batch a note has.
-/
import Derived.Test.YtclfdagenaaalaaGreatPk54
import Derived.Test.YtclfdagenaaalaaGreatPk42
namespace Go.Proofs.YtclfdagenaaalaaGreat
open Go.RowKit Go.Maps
set_option linter.unusedVariables false
set_option maxRecDepth 100000

theorem info_ntA {k f t : Int} {q1 : Option Addr} {n1 c1 : Nat} {q2 : Option Addr} {n2 c2 : Nat} {q3 : Option Addr} {n3 c3 : Nat} : (Tryz.prog.info? 36).map (·.size) = some (#[Value.int .i64 k, .int .i64 f, .int .i64 t, .slice q1 n1 c1, .slice q2 n2 c2, .slice q3 n3 c3] : Array Value).size := by kernel_rfl
/-- What the document's Batch answers: the entries lie where the note's do. -/
def RbE (e : Ending) (N : Nt) (l : List Ent) (v : Value) : Prop := (GbOK N l ∧ e = .returned (.tuple #[.agg (btA (ntB N l) v), .bool true])) ∨ (¬ GbOK N l ∧ e = .returned (.tuple #[.agg (btA zBt (.slice none 0 0)), .bool false]))
set_option maxHeartbeats 2000000 in
theorem rbatch17_any (N : Nt) (l : List Ent) (vn vo ve : Value) (w : World) (h1 : Is w vn N.ns) (h2 : SR 5 k64 w vo N.os) (h3 : ER EE w ve l) :
    Calls Tryz.prog 15 #[ntV N vn vo ve] w fun e w' => RbE e N l ve ∧ Below w.heap.size w w' := by
  have HCk := fun (V : World) (hV : Below w.heap.size w V) => good_any (ntE N l) vn vo ve V (h1.keep hV) (h2.keep hV) ((er_sr76 h3).keep hV)
  have HI : Hid (∀ V, Below w.heap.size w V → Is V vn N.ns ∧ ER EE V ve l) := fun V hV => ⟨h1.keep hV, h3.keep hV⟩
  obtain ⟨qn, cn, en⟩ := h1.form
  obtain ⟨qo, co, go, oo, eo, -⟩ := h2
  obtain ⟨qe, ce, ee⟩ := h3.form
  subst en eo ee
  clear h1 h3
  obtain ⟨k, f, t, ns, os, es⟩ := N
  unfold ntE at HCk
  try dsimp only at *
  generalize hnl : l.length = nl at *
  generalize hnn : ns.length = nn at *
  generalize hno : os.length = no at *
  obtain ⟨A, hE, hX, hw⟩ := blk1 w #[.int .i64 k, .int .i64 f, .int .i64 t, .slice qn nn cn, .slice qo no co, .slice qe nl ce] 36
  have x0 : A.cell? ⟨w.heap.size, 0, none⟩ = some (.int .i64 k) := hX.at rfl
  have hXl := hX.lt
  have HX : Hid (∀ V, Below A.heap.size A V → Blk V w.heap.size #[.int .i64 k, .int .i64 f, .int .i64 t, .slice qn nn cn, .slice qo no co, .slice qe nl ce] 36 ∧ Below w.heap.size w V) := fun V hV => ⟨hX.keep hV, ab_trans hw hV⟩
  have hlo : w.heap.size ≤ A.heap.size := Nat.le_of_lt hXl
  clear hX hw
  go_enter Tryz.func15, Tryz.ntmps15
  go_upto_region 1 with (refine al_blk rfl rfl (btA zBt (.slice none 0 0)) (zero_bt _) ?_; intro W1 e1 hX1 b1; clear e1)
  obtain ⟨hXn, hwn⟩ := HX.out W1 b1
  have y0 : W1.cell? ⟨w.heap.size, 0, none⟩ = some (.int .i64 k) := hXn.at rfl
  have y1 : W1.cell? ⟨w.heap.size, 1, none⟩ = some (.int .i64 f) := hXn.at rfl
  have y2 : W1.cell? ⟨w.heap.size, 2, none⟩ = some (.int .i64 t) := hXn.at rfl
  have y3 : W1.cell? ⟨w.heap.size, 3, none⟩ = some (.slice qn nn cn) := hXn.at rfl
  have y4 : W1.cell? ⟨w.heap.size, 4, none⟩ = some (.slice qo no co) := hXn.at rfl
  have y5 : W1.cell? ⟨w.heap.size, 5, none⟩ = some (.slice qe nl ce) := hXn.at rfl
  clear hE x0
  by_cases hk : k = 8
  · have hkb : (k != 8) = false := by simp [hk]
    have HK8 : Hid (k = 8) := hk
    by_cases hg : GoodN ⟨k, f, t, ns, os, l.map entF⟩
    · have HCk2 : ∀ V, Below w.heap.size w V → Calls Tryz.prog 32 #[.agg #[.int .i64 k, .int .i64 f, .int .i64 t, .slice qn nn cn, .slice qo no co, .slice qe nl ce]] V fun e w' => e = .returned (.bool true) ∧ Below V.heap.size V w' := fun V hV => (HCk V hV).mono (fun e w' ⟨⟨z, h1, h2⟩, h3⟩ => ⟨by rw [h1, h2.2 hg], h3⟩)
      have h6 : nn = 6 := by
        have := hg.fit
        unfold FitK at this
        dsimp only at this
        rw [List.length_map] at this
        omega
      have hns : ∃ a b c d e g, ns = [a, b, c, d, e, g] := by
        match ns, (show ns.length = 6 by omega) with
        | [a, b, c, d, e, g], _ => exact ⟨a, b, c, d, e, g, rfl⟩
      obtain ⟨ep, ln, f0, f1, t0, t1, rfl⟩ := hns
      have HGd : Hid (GoodN ⟨k, f, t, [ep, ln, f0, f1, t0, t1], os, l.map entF⟩) := hg
      clear HCk hg hk hnn
      subst h6
      go_upto_region 3 with (go_at_call 32; refine (HCk2 _ hwn).mono ?_; rintro e W2 ⟨rfl, b2⟩)
      have hX2 := hX1.keep b2
      have b12 := ab_trans b1 b2
      obtain ⟨hXn2, hw2⟩ := HX.out W2 b12
      have hIn := (HI.out W2 hw2).1
      have HE2 : Hid (∀ V, Below W2.heap.size W2 V → ER EE V (.slice qe nl ce) l) := fun V hV => (HI.out W2 hw2).2.keep hV
      have HX3 : Hid (∀ V, Below W2.heap.size W2 V → V.cell? ⟨w.heap.size, 3, none⟩ = some (.slice qn 6 cn) ∧ V.cell? ⟨w.heap.size, 5, none⟩ = some (.slice qe nl ce)) := fun V hV => ⟨(hXn2.keep hV).at rfl, (hXn2.keep hV).at rfl⟩
      obtain ⟨gN, oN, rfl, hNl, hN5⟩ := hIn.at (by omega)
      have HN : Hid (∀ V, Below W2.heap.size W2 V → V.cell? ⟨gN, oN, none⟩ = some (.int .i64 ep) ∧ V.cell? ⟨gN, oN + 1, none⟩ = some (.int .i64 ln) ∧ V.cell? ⟨gN, oN + 2, none⟩ = some (.int .i64 f0) ∧ V.cell? ⟨gN, oN + 3, none⟩ = some (.int .i64 f1) ∧ V.cell? ⟨gN, oN + 4, none⟩ = some (.int .i64 t0) ∧ V.cell? ⟨gN, oN + 5, none⟩ = some (.int .i64 t1)) := fun V hV => ⟨by have := keep_cell hV (hN5 0 ep rfl) hNl; rwa [Nat.add_zero] at this, keep_cell hV (hN5 1 ln rfl) hNl, keep_cell hV (hN5 2 f0 rfl) hNl, keep_cell hV (hN5 3 f1 rfl) hNl, keep_cell hV (hN5 4 t0 rfl) hNl, keep_cell hV (hN5 5 t1 rfl) hNl⟩
      have hslo : w.heap.size ≤ W2.heap.size := hw2.size
      have hAlt := hX2.lt
      clear y0 y1 y2 y3 y4 y5 HCk2 hX1 hXn hXn2 hwn b1 b2 hIn hN5 hNl hkb b12 HX HI
      refine wp_region_held_drew (S := fun w' => Below W2.heap.size W2 w') (by kernel_rfl) (ab_drew (Below.refl _ _)) (fun hHeld => ?_)
      refine takeH (i := 0) (some 14) rfl rfl (by kernel_rfl) (by kernel_rfl) (by kernel_rfl) (fun _ _ _ h => h) (by rfl) (fun w hSw => by (try dsimp only at hSw); go_simp; try rfl) hHeld ?_
      go_frame
      refine takeH (i := 1) (some 15) rfl rfl (by kernel_rfl) (by kernel_rfl) (by kernel_rfl) (fun _ _ _ h => h) (by rfl) (fun w hSw => by (try dsimp only at hSw); (obtain ⟨q3, q5⟩ := HX3.out _ hSw; go_simp; try rfl)) hHeld ?_
      go_frame
      refine takeH (i := 2) (some 16) rfl rfl (by kernel_rfl) (by kernel_rfl) (by kernel_rfl) (fun _ _ _ h => h) (by rfl) (fun w hSw => by (try dsimp only at hSw); go_simp; try rfl) hHeld ?_
      go_frame
      refine takeH (i := 3) (some 17) rfl rfl (by kernel_rfl) (by kernel_rfl) (by kernel_rfl) (fun _ _ _ h => h) (by rfl) (fun w hSw => by (try dsimp only at hSw); (obtain ⟨q0, q1, q2, q3, q4, q5⟩ := HN.out _ hSw; go_simp; try rfl)) hHeld ?_
      go_frame
      refine takeH (i := 4) (some 18) rfl rfl (by kernel_rfl) (by kernel_rfl) (by kernel_rfl) (fun _ _ _ h => h) (by rfl) (fun w hSw => by (try dsimp only at hSw); go_simp; try rfl) hHeld ?_
      go_frame
      refine takeH (i := 5) (some 19) rfl rfl (by kernel_rfl) (by kernel_rfl) (by kernel_rfl) (fun _ _ _ h => h) (by rfl) (fun w hSw => by (try dsimp only at hSw); (obtain ⟨q3, q5⟩ := HX3.out _ hSw; go_simp; try rfl)) hHeld ?_
      go_frame
      refine takeH (i := 6) (some 20) rfl rfl (by kernel_rfl) (by kernel_rfl) (by kernel_rfl) (fun _ _ _ h => h) (by rfl) (fun w hSw => by (try dsimp only at hSw); go_simp; try rfl) hHeld ?_
      go_frame
      refine takeH (i := 7) (some 21) rfl rfl (by kernel_rfl) (by kernel_rfl) (by kernel_rfl) (fun _ _ _ h => h) (by rfl) (fun w hSw => by (try dsimp only at hSw); (obtain ⟨q0, q1, q2, q3, q4, q5⟩ := HN.out _ hSw; go_simp; try rfl)) hHeld ?_
      go_frame
      refine takeH (i := 8) (some 22) rfl rfl (by kernel_rfl) (by kernel_rfl) (by kernel_rfl) (fun _ _ _ h => h) (by rfl) (fun w hSw => by (try dsimp only at hSw); go_simp; try rfl) hHeld ?_
      go_frame
      refine takeH (i := 9) (some 23) rfl rfl (by kernel_rfl) (by kernel_rfl) (by kernel_rfl) (fun _ _ _ h => h) (by rfl) (fun w hSw => by (try dsimp only at hSw); (obtain ⟨q3, q5⟩ := HX3.out _ hSw; go_simp; try rfl)) hHeld ?_
      go_frame
      refine takeH (i := 10) (some 24) rfl rfl (by kernel_rfl) (by kernel_rfl) (by kernel_rfl) (fun _ _ _ h => h) (by rfl) (fun w hSw => by (try dsimp only at hSw); go_simp; try rfl) hHeld ?_
      go_frame
      refine takeH (i := 11) (some 25) rfl rfl (by kernel_rfl) (by kernel_rfl) (by kernel_rfl) (fun _ _ _ h => h) (by rfl) (fun w hSw => by (try dsimp only at hSw); (obtain ⟨q0, q1, q2, q3, q4, q5⟩ := HN.out _ hSw; go_simp; try rfl)) hHeld ?_
      go_frame
      refine takeH (i := 12) (some 26) rfl rfl (by kernel_rfl) (by kernel_rfl) (by kernel_rfl) (fun _ _ _ h => h) (by rfl) (fun w hSw => by (try dsimp only at hSw); go_simp; try rfl) hHeld ?_
      go_frame
      refine takeH (i := 13) (some 27) rfl rfl (by kernel_rfl) (by kernel_rfl) (by kernel_rfl) (fun _ _ _ h => h) (by rfl) (fun w hSw => by (try dsimp only at hSw); (obtain ⟨q3, q5⟩ := HX3.out _ hSw; go_simp; try rfl)) hHeld ?_
      go_frame
      refine takeH (i := 14) (some 28) rfl rfl (by kernel_rfl) (by kernel_rfl) (by kernel_rfl) (fun _ _ _ h => h) (by rfl) (fun w hSw => by (try dsimp only at hSw); go_simp; try rfl) hHeld ?_
      go_frame
      refine takeH (i := 15) (some 29) rfl rfl (by kernel_rfl) (by kernel_rfl) (by kernel_rfl) (fun _ _ _ h => h) (by rfl) (fun w hSw => by (try dsimp only at hSw); (obtain ⟨q0, q1, q2, q3, q4, q5⟩ := HN.out _ hSw; go_simp; try rfl)) hHeld ?_
      go_frame
      refine takeH (i := 16) (some 30) rfl rfl (by kernel_rfl) (by kernel_rfl) (by kernel_rfl) (fun _ _ _ h => h) (by rfl) (fun w hSw => by (try dsimp only at hSw); go_simp; try rfl) hHeld ?_
      go_frame
      refine takeH (i := 17) (some 31) rfl rfl (by kernel_rfl) (by kernel_rfl) (by kernel_rfl) (fun _ _ _ h => h) (by rfl) (fun w hSw => by (try dsimp only at hSw); go_simp; try rfl) hHeld ?_
      go_frame
      refine takeH (i := 18) (some 32) rfl rfl (by kernel_rfl) (by kernel_rfl) (by kernel_rfl) (fun _ _ _ h => h) (by rfl) (fun w hSw => by (try dsimp only at hSw); (obtain ⟨q3, q5⟩ := HX3.out _ hSw; go_simp; try rfl)) hHeld ?_
      go_frame
      refine takeH (i := 19) (some 33) rfl rfl (by kernel_rfl) (by kernel_rfl) (by kernel_rfl) (fun _ _ _ h => h) (by rfl) (fun w hSw => by (try dsimp only at hSw); go_simp; try rfl) hHeld ?_
      go_frame
      refine takeH (i := 20) (some 34) rfl rfl (by kernel_rfl) (by kernel_rfl) (by kernel_rfl) (fun _ _ _ h => h) (by rfl) (fun w hSw => by (try dsimp only at hSw); (obtain ⟨q0, q1, q2, q3, q4, q5⟩ := HN.out _ hSw; go_simp; try rfl)) hHeld ?_
      go_frame
      refine takeH (i := 21) (some 35) rfl rfl (by kernel_rfl) (by kernel_rfl) (by kernel_rfl) (fun _ _ _ h => h) (by rfl) (fun w hSw => by (try dsimp only at hSw); go_simp; try rfl) hHeld ?_
      go_frame
      refine takeH (i := 22) (some 36) rfl rfl (by kernel_rfl) (by kernel_rfl) (by kernel_rfl) (fun _ _ _ h => h) (by rfl) (fun w hSw => by (try dsimp only at hSw); (obtain ⟨q3, q5⟩ := HX3.out _ hSw; go_simp; try rfl)) hHeld ?_
      go_frame
      refine takeH (i := 23) (some 37) rfl rfl (by kernel_rfl) (by kernel_rfl) (by kernel_rfl) (fun _ _ _ h => h) (by rfl) (fun w hSw => by (try dsimp only at hSw); go_simp; try rfl) hHeld ?_
      go_frame
      refine takeH (i := 24) (some 38) rfl rfl (by kernel_rfl) (by kernel_rfl) (by kernel_rfl) (fun _ _ _ h => h) (by rfl) (fun w hSw => by (try dsimp only at hSw); (obtain ⟨q0, q1, q2, q3, q4, q5⟩ := HN.out _ hSw; go_simp; try rfl)) hHeld ?_
      go_frame
      refine takeH (i := 25) (some 39) rfl rfl (by kernel_rfl) (by kernel_rfl) (by kernel_rfl) (fun _ _ _ h => h) (by rfl) (fun w hSw => by (try dsimp only at hSw); go_simp; try rfl) hHeld ?_
      go_frame
      refine takeH (i := 26) (some 40) rfl rfl (by kernel_rfl) (by kernel_rfl) (by kernel_rfl) (fun _ _ _ h => h) (by rfl) (fun w hSw => by (try dsimp only at hSw); go_simp; try rfl) hHeld ?_
      go_frame
      refine takeH (i := 27) (some 41) rfl rfl (by kernel_rfl) (by kernel_rfl) (by kernel_rfl) (fun _ _ _ h => h) (by rfl) (fun w hSw => by (try dsimp only at hSw); (obtain ⟨q3, q5⟩ := HX3.out _ hSw; go_simp; try rfl)) hHeld ?_
      go_frame
      refine takeH (i := 28) (some 42) rfl rfl (by kernel_rfl) (by kernel_rfl) (by kernel_rfl) (fun _ _ _ h => h) (by rfl) (fun w hSw => by (try dsimp only at hSw); exact bd_run rfl (built_bt ep ln f0 f1 t0 t1 qe nl ce) (by simp only [List.map_toArray, List.map_cons, List.map_nil]; rfl) _) hHeld ?_
      go_frame
      refine wpAnyH_ready (rs := [29]) (by kernel_rfl) (by simp) (AllReadyH.cons rfl (fun K hK => ?_) AllReadyH.nil)
      rw [if_pos (by rfl)]
      refine alW17 (some 4) rfl rfl (btA zBt (.slice none 0 0)) (zero_bt _) fun W5 hX5 b5 => ?_
      have hs5 := hHeld.size
      refine hK.out _ _ (ab_trans hHeld b5) (fun hHeld => ?_)
      clear hK K
      refine wpAnyH_ready (rs := [30]) (by kernel_rfl) (by simp) (AllReadyH.cons rfl (fun K hK => ?_) AllReadyH.nil)
      rw [if_pos (by rfl)]
      refine stW none rfl rfl hX5 rfl (vs := #[.int .i64 ep, .int .i64 ln, .int .i64 f0, .int .i64 f1, .int .i64 t0, .int .i64 t1, .slice qe nl ce]) rfl (info_bt ⟨ep, ln, (f0, f1), (t0, t1), []⟩ qe nl ce) rfl (bt_one ⟨ep, ln, (f0, f1), (t0, t1), []⟩ qe nl ce) fun W7 hX7 C7 => ?_
      have hb7 : Below W2.heap.size W2 W7 := ab_chg hHeld C7 hs5
      refine hK.out _ _ hb7 (fun hHeld => ?_)
      clear hK K
      refine wpAnyH_done (by kernel_rfl) ?_ _
      clear hHeld C7 hX5
      have hX27 := hX2.keep hb7
      have hw7 := ab_trans hw2 hb7
      have HChk := rgood17_any ⟨ep, ln, (f0, f1), (t0, t1), l⟩ (.slice qe nl ce) W7 (HE2.out W7 hb7)
      unfold btA at HChk
      try dsimp only at HChk
      clear HX3 HN HE2 b5 hs5 hb7
      by_cases hgk : GkP ⟨ep, ln, (f0, f1), (t0, t1), l⟩
      · have HOk : Hid (GbOK ⟨k, f, t, [ep, ln, f0, f1, t0, t1], os, es⟩ l) := ⟨HK8.out, HGd.out, hgk⟩
        go_upto_region 6 with (first
          | (refine ld_blk rfl rfl hX7 rfl _ Tryz.underlying33 rfl (info_bt ⟨ep, ln, (f0, f1), (t0, t1), []⟩ qe nl ce) ?_)
          | (go_at_call 8; refine HChk.mono ?_; rintro e W8 ⟨h8, b8⟩; obtain rfl : e = .returned (.bool true) := by rcases h8 with ⟨_, h8⟩ | ⟨h8, _⟩ <;> first | exact h8 | exact absurd hgk h8))
        have hX8 := hX7.keep b8
        have hXr := hX27.keep b8
        have hw8 := ab_trans hw7 b8
        clear hX7 hX27 HChk hgk b8 h8
        go_wp2_with (first
          | (refine ld_blk rfl rfl hX8 rfl _ Tryz.underlying33 rfl (info_bt ⟨ep, ln, (f0, f1), (t0, t1), []⟩ qe nl ce) ?_)
          | (refine st_blk rfl rfl hXr rfl (vs := #[.int .i64 ep, .int .i64 ln, .int .i64 f0, .int .i64 f1, .int .i64 t0, .int .i64 t1, .slice qe nl ce]) rfl (info_bt ⟨ep, ln, (f0, f1), (t0, t1), []⟩ qe nl ce) rfl (bt_one ⟨ep, ln, (f0, f1), (t0, t1), []⟩ qe nl ce) ?_; intro W9 hX9 C9))
        exact bodyPost_ret (results_c2 rfl _ _ _ 33 _ (0, 0) _ (.bool true) rfl rfl hX9 Tryz.underlying33 rfl (info_bt ⟨ep, ln, (f0, f1), (t0, t1), []⟩ qe nl ce)) rfl ⟨.inl ⟨HOk.out, rfl⟩, ab_chg hw8 C9 hlo⟩
      · have HNo : Hid (¬ GbOK ⟨k, f, t, [ep, ln, f0, f1, t0, t1], os, es⟩ l) := fun h => hgk h.2.2
        go_upto_region 5 with (first
          | (refine ld_blk rfl rfl hX7 rfl _ Tryz.underlying33 rfl (info_bt ⟨ep, ln, (f0, f1), (t0, t1), []⟩ qe nl ce) ?_)
          | (go_at_call 8; refine HChk.mono ?_; rintro e W8 ⟨h8, b8⟩; obtain rfl : e = .returned (.bool false) := by rcases h8 with ⟨h8, _⟩ | ⟨_, h8⟩ <;> first | exact h8 | exact absurd h8 hgk))
        have hXr := hX27.keep b8
        have hw8 := ab_trans hw7 b8
        clear hX7 hX27 HChk hgk b8 h8
        go_wp2_with (first
          | (refine bd_blk rfl rfl _ built_bt0 ?_)
          | (refine st_blk rfl rfl hXr rfl (vs := btA zBt (.slice none 0 0)) rfl (info_bt zBt none 0 0) rfl (bt_one zBt none 0 0) ?_; intro W9 hX9 C9))
        exact bodyPost_ret (results_c2 rfl _ _ _ 33 _ (0, 0) _ (.bool false) rfl rfl hX9 Tryz.underlying33 rfl (info_bt zBt none 0 0)) rfl ⟨.inr ⟨HNo.out, rfl⟩, ab_chg hw8 C9 hlo⟩
    · have HCk2 : ∀ V, Below w.heap.size w V → Calls Tryz.prog 32 #[.agg #[.int .i64 k, .int .i64 f, .int .i64 t, .slice qn nn cn, .slice qo no co, .slice qe nl ce]] V fun e w' => e = .returned (.bool false) ∧ Below V.heap.size V w' := fun V hV => (HCk V hV).mono (fun e w' ⟨⟨z, h1, h2⟩, h3⟩ => ⟨by rw [h1]; cases z; rfl; exact absurd (h2.1 rfl) hg, h3⟩)
      have HNo : Hid (¬ GbOK ⟨k, f, t, ns, os, es⟩ l) := fun h => hg h.2.1
      clear HCk hg hk
      go_upto_region 2 with (go_at_call 32; refine (HCk2 _ hwn).mono ?_; rintro e W2 ⟨rfl, b2⟩)
      have hX2 := hX1.keep b2
      have hw2 := ab_trans hwn b2
      clear HCk2 hX1 hXn hwn b1 b2 y0 y1 y2 y3 y4 y5
      go_wp2_with (first
        | (refine bd_blk rfl rfl _ built_bt0 ?_)
        | (refine st_blk rfl rfl hX2 rfl (vs := btA zBt (.slice none 0 0)) rfl (info_bt zBt none 0 0) rfl (bt_one zBt none 0 0) ?_; intro W9 hX9 C9))
      exact bodyPost_ret (results_c2 rfl _ _ _ 33 _ (0, 0) _ (.bool false) rfl rfl hX9 Tryz.underlying33 rfl (info_bt zBt none 0 0)) rfl ⟨.inr ⟨HNo.out, rfl⟩, ab_chg hw2 C9 hlo⟩
  · have hkb : (k != 8) = true := by simp [hk]
    have HNo : Hid (¬ GbOK ⟨k, f, t, ns, os, es⟩ l) := fun h => hk h.1
    clear HCk hk
    go_upto_region 2 with fail
    clear y0 y1 y2 y3 y4 y5 hkb
    go_wp2_with (first
      | (refine bd_blk rfl rfl _ built_bt0 ?_)
      | (refine st_blk rfl rfl hX1 rfl (vs := btA zBt (.slice none 0 0)) rfl (info_bt zBt none 0 0) rfl (bt_one zBt none 0 0) ?_; intro W9 hX9 C9))
    exact bodyPost_ret (results_c2 rfl _ _ _ 33 _ (0, 0) _ (.bool false) rfl rfl hX9 Tryz.underlying33 rfl (info_bt zBt none 0 0)) rfl ⟨.inr ⟨HNo.out, rfl⟩, ab_chg hwn C9 hlo⟩
end Go.Proofs.YtclfdagenaaalaaGreat
