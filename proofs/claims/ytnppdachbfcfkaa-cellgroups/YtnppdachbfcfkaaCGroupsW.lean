/-
  The walk of estuarylaw02.CellGroups.
-/
import Derived.Test.YtnppdachbfcfkaaGroupsP
import Derived.Test.YtnppdachbfcfkaaSteps
import Derived.Test.YtnppdachbfcfkaaSlc
import Derived.Deep.RegionHeld3
import Derived.Deep.CutRange
import Derived.Maps.AppendAt
namespace Go.Proofs.Ytnppdachbfcfkaa.cellGroups
open Go.RowKit
set_option linter.unusedVariables false

theorem groups_big1 (q : Option Addr) (n cap : Nat) (q2 : Option Addr) (m cap2 : Nat) (w : World) (h : 1000 < n) : Calls Try.prog 4 #[.slice q n cap, .slice q2 m cap2] w fun e w' => e = .returned (.bool true) ∧ Below w.heap.size w w' := by
  have h' : (1000 : Int) < (n : Int) := by omega
  go_enter Try.func4, Try.ntmps4
  go_wp2_with (go_at_call 9; refine (alive2_any _).mono ?_; rintro e W1 ⟨rfl, hb⟩)
  go_ret
  exact ⟨rfl, hb⟩
theorem groups_big2 (q : Option Addr) (n cap : Nat) (q2 : Option Addr) (m cap2 : Nat) (w : World) (hn : n ≤ 1000) (h : 20 < m) : Calls Try.prog 4 #[.slice q n cap, .slice q2 m cap2] w fun e w' => e = .returned (.bool true) ∧ Below w.heap.size w w' := by
  have h' : (20 : Int) < (m : Int) := by omega
  have hn' : decide ((1000 : Int) < (n : Int)) = false := decide_eq_false (by omega)
  go_enter Try.func4, Try.ntmps4
  go_wp2_with (go_at_call 9; refine (alive2_any _).mono ?_; rintro e W1 ⟨rfl, hb⟩)
  go_ret
  exact ⟨rfl, hb⟩

/-- Where a cut ends. -/
theorem cut_to (c : Int) (n a : Nat) (ha : a ≤ n) (hn : n ≤ 1000) : ∃ t : Nat, wrap64 ((a : Int) + wrap64 ((IntKind.u64.wrap c).tmod ((n : Int) - (a : Int) + 1))) = (t : Int) ∧ a ≤ t ∧ t ≤ n := by
  have h0 : 0 ≤ IntKind.u64.wrap c := by simp [IntKind.wrap, IntKind.signed, IntKind.bits] <;> omega
  have h1 := Int.tmod_nonneg ((n : Int) - (a : Int) + 1) h0
  have h2 := Int.tmod_lt_of_pos (IntKind.u64.wrap c) (b := (n : Int) - (a : Int) + 1) (by omega)
  generalize (IntKind.u64.wrap c).tmod ((n : Int) - (a : Int) + 1) = r at *
  refine ⟨(a + r).toNat, ?_, by omega, by omega⟩
  unfold wrap64; omega
theorem crow_seg {W : World} {g : Nat} {l : List (Nat → Int)} (h : CRow W g 0 (l.map oneS)) (a k : Nat) : CRow W g (a * 74) (((l.drop a).take k).map oneS) := by
  intro j c hc
  have hj : j < k := by have := (List.getElem?_eq_some_iff.1 hc).1; simp at this; omega
  rw [List.getElem?_map, List.getElem?_take_of_lt hj, List.getElem?_drop, ← List.getElem?_map] at hc
  have := h (a + j) c hc
  rwa [Nat.zero_add, Nat.add_mul] at this
theorem crow_none {W : World} {g off : Nat} : CRow W g off [] := fun j c hc => by simp at hc
theorem flat_suffix (G : List (List (Nat → Int))) (k : Nat) : ∃ pre, G.flatten = pre ++ (G.drop k).flatten := ⟨(G.take k).flatten, by rw [← List.flatten_append, List.take_append_drop]⟩

set_option maxRecDepth 100000 in
set_option maxHeartbeats 2000000 in
theorem groups_small (q : Option Addr) (g off n cap : Nat) (l : List (Nat → Int)) (q2 : Option Addr) (gc oc m capc : Nat) (cu : List (Nat → Int)) (w : World) (hn : l.length = n) (h : n ≤ 1000) (hp : 0 < n → q = some ⟨g, off, none⟩) (hg : 0 < n → g < w.heap.size) (hr : SRow w g off l)
    (hm : cu.length = m) (h2 : m ≤ 20) (hp2 : 0 < m → q2 = some ⟨gc, oc, none⟩) (hg2 : 0 < m → gc < w.heap.size) (hr2 : ∀ j c, cu[j]? = some c → w.cell? ⟨gc, oc + j, none⟩ = some (.int .i64 (c 0)) ∧ Fit (c 0)) :
    Calls Try.prog 4 #[.slice q n cap, .slice q2 m capc] w fun e w' => e = .returned (.bool true) ∧ Below w.heap.size w w' := by
  have hwf := srow_wf hr
  have hft := srow_fit hr
  have h' : decide ((1000 : Int) < (n : Int)) = false := decide_eq_false (by omega)
  have h2' : (m : Int) ≤ (20 : Int) := by omega
  obtain ⟨i0, hi, hz0, hz1, hz2⟩ := info_parts infoCell
  go_enter Try.func4, Try.ntmps4
  go_upto_region 7 with (first
    | (go_at_call 9; refine (alive2_any _).mono ?_; rintro e W1 ⟨rfl, b1⟩)
    | (go_at_call 11; refine (cells_any q g off n cap l _ hn (by omega) hp (srow_keep hr (by omega) b1) (fun h0 => Nat.lt_of_lt_of_le (hg h0) b1.size)).mono ?_; rintro e W2 ⟨v, rfl, hown, hv, b2⟩; obtain ⟨gs, cap2, rfl, hbg, hgs, hl2, hnc, hcm, hcr⟩ := owns_crow hown hv)
    | (go_at_call 10; refine (join_any gs 0 n cap2 (l.map oneS) _ (by simpa using hn) (by omega) hwf hcr hgs).mono ?_; rintro e W3 ⟨rfl, b3⟩)
    | (refine al_cell rfl rfl ?_; intro W4 e4 hX4 b4; clear e4)
    | (refine st_cell rfl rfl hX4 rfl rfl ?_; intro W5 hX5 C5))
  have hcr3 := crow_keep hcr hgs b3
  have hgs3 : gs < W3.heap.size := Nat.lt_of_lt_of_le hgs b3.size
  have hcr5 := crow_keep hcr3 hgs3 (b4.trans (C5.below (Nat.le_refl _)))
  have hgs5 : gs < W5.heap.size := Nat.lt_of_lt_of_le hgs3 (b4.trans (C5.below (Nat.le_refl _))).size
  have hw5 : Below w.heap.size w W5 := ab_chg (ab_trans (ab_trans (ab_trans b1 b2) b3) b4) C5 (by have := b1.size; have := b2.size; have := b3.size; omega)
  have hX5' : Blk W5 W3.heap.size (CA (JL l)) 31 := hX5
  clear b1 b2 b3 b4 C5 hX4 hX5 hown hv hcr hbg hgs hcr3 hgs3 hl2
  generalize W3.heap.size = A at *
  go_wp2_with (first
    | (go_at_call 13; refine (unit_any _).mono ?_; rintro e W6 ⟨rfl, b6⟩)
    | (refine al_cell rfl rfl ?_; intro W7 e7 hY7 b7; clear e7)
    | (refine st_cell rfl rfl hY7 rfl rfl ?_; intro W8 hY8 C8))
  have hcr6 := crow_keep hcr5 hgs5 b6
  have hgs6 : gs < W6.heap.size := Nat.lt_of_lt_of_le hgs5 b6.size
  have hX6 := hX5'.keep b6
  have hw6 := ab_trans hw5 b6
  have hw8 : Below W6.heap.size W6 W8 := ab_chg b7 C8 (Nat.le_refl _)
  clear b6 b7 C8 hY7 hcr5 hgs5 hX5' hw5
  go_loopw [8] (fun i wr => ∃ k : Nat, k ≤ n ∧ i = .int .i64 ((k : Int) - 1) ∧ Blk wr W6.heap.size (CA (JL (l.drop k))) 31 ∧ Below W6.heap.size W6 wr) (fun i _ => (intOf i + 1).toNat)
  case atStart => exact ⟨n, by omega, by go_num, by rw [List.drop_of_length_le (by omega)]; exact hY8, hw8⟩
  case round =>
    clear hY8 hw8
    obtain ⟨k, hk, rfl, hY, hb⟩ := hrel
    cases k with
    | zero =>
      have e0 : (((0 : Nat) : Int) - 1) = (-1 : Int) := by omega
      rw [e0]
      clear e0
      rw [List.drop_zero] at hY
      obtain ⟨V, rfl⟩ : ∃ V, V = wr := ⟨_, rfl⟩
      have hXV := hX6.keep hb
      have hcrV := crow_keep hcr6 hgs6 hb
      have hgsV : gs < V.heap.size := Nat.lt_of_lt_of_le hgs6 hb.size
      have hwV := ab_trans hw6 hb
      have hc2 := fun j c (hj : cu[j]? = some c) => (hwV.cell (p := ⟨gc, oc + j, none⟩) (hg2 (by have := (List.getElem?_eq_some_iff.1 hj).1; omega))).trans (hr2 j c hj).1
      have hf2 := fun j c hj => (hr2 j c hj).2
      have hgcV : 0 < m → gc < V.heap.size := fun h0 => Nat.lt_of_lt_of_le (hg2 h0) hwV.size
      clear hX6 hcr6 hgs6 hb hw6 hr2 hg2 hr hp hg
      go_wp2_with fail
      go_loopw [9, 10, 48] (fun v av i wr => ∃ (k a : Nat) (G : List (List (Nat → Int))), k ≤ m ∧ i = .int .i64 (k : Int) ∧ av = .int .i64 (a : Int) ∧ a ≤ n ∧ G.length = k ∧ G.flatten = l.take a ∧ wr.ownsRow V.heap.size 31 74 v k (flatC (G.map JL)) ∧ v ≠ .slice none 0 0 ∧ Below V.heap.size V wr) (fun _ _ i _ => m - (intOf i).toNat)
      case atStart =>
        refine ⟨0, 0, [], by omega, rfl, rfl, by omega, rfl, rfl, ?_, by simp, ab_alloc (Below.refl _ _) _⟩
        refine ⟨rfl, .inr ⟨V.heap.size, 0, #[], rfl, Nat.le_refl _, Blk.new _ _ _, by omega, by omega, rfl, rfl⟩⟩
      case round =>
        obtain ⟨k, at0, G, hk, rfl, rfl, ha, hG, hGf, hown, hv, hb⟩ := hrel
        by_cases c : k = m
        · subst c
          have hai : (at0 : Int) ≤ (n : Int) := by omega
          have hcrw := crow_keep hcrV hgsV hb
          have hgsw : gs < wr.heap.size := Nat.lt_of_lt_of_le hgsV hb.size
          have hsl : ((l.drop at0).map oneS).length = n - at0 := by simp; omega
          have hsw : ∀ c ∈ (l.drop at0).map oneS, Wf c := fun c hc => hwf c (by
            obtain ⟨s, hs, rfl⟩ := List.mem_map.1 hc
            exact List.mem_map.2 ⟨s, List.mem_of_mem_drop hs, rfl⟩)
          have HF : Hid ((G ++ [l.drop at0]).flatten = l) := by
            show _ = _
            rw [List.flatten_append, hGf]
            simp
          have HC : Hid (flatC (G.map JL) ++ (CA (JL (l.drop at0))).toList = flatC ((G ++ [l.drop at0]).map JL)) := by show _ = _; rw [List.map_append, List.map_singleton, flatC_snoc]
          have hcs : CRow wr gs (at0 * 74) ((l.drop at0).map oneS) := by have := crow_seg hcrw at0 (n - at0); rwa [List.take_of_length_le (by rw [List.length_drop]; omega)] at this
          clear hGf hcrw
          generalize hsg : l.drop at0 = seg at *
          clear hsg
          go_upto_region 22 with (first
            | (refine sl_l rfl rfl rfl rfl slc_cell (slc_size _) ha hnc ?_; intro o' cp ho hcp; clear hcp; have HO : Hid (0 < n - at0 → o' = 0 + at0 * 74) := ho; clear ho)
            | (go_at_call 10; refine (join_at gs o' (at0 * 74) (n - at0) cp (seg.map oneS) _ hsl (by omega) hsw (fun h0 => by rw [HO.out h0, Nat.zero_add]) hcs hgsw).mono ?_; rintro e V2 ⟨rfl, b2⟩; have hown2 := owns_keep hown b2; have hw2 := ab_trans hb b2)
            | (refine bs1 rfl rfl (JL seg) (by simp only [List.map_toArray, List.map_cons, List.map_nil]; rfl) ?_; intro V3 hN b3 z3; have hown3 := owns_keep hown2 b3; have hw3 := ab_trans hw2 b3)
            | (at_builtin; refine wpList_append_own _ rfl _ _ 33 rfl V.heap.size 31 i0 (.agg (CA zc)) 74 592 Try.underlying33 hi hz0 hz1 hz2 (CA_size _) (by decide) _ _ _ rfl hown3 ⟨V2.heap.size, 0, none⟩ 1 1 (CA (JL seg)).toList rfl (by simp [CA_size]) ?c1 ?c2 ?c3 ?c4 ?c5 ?_))
          case c1 => intro j u hj; rw [Addr.add_mid, Nat.zero_add, hN.cell]; simpa using hj
          case c2 => intro u hu; exact (Array.all_eq_true_iff_forall_mem.1 (CA_one (JL seg))) u (by simpa using hu)
          case c3 => unfold maxLen; omega
          case c4 => omega
          case c5 => exact hw3.size
          intro v' w1 hown' hgrow hnil
          have hv' : v' ≠ .slice none 0 0 := by intro e; first | exact hv (hnil.1 e).1 | exact hnil e
          clear hnil
          have hw' : Below V.heap.size V w1 := by
            refine hw3.grown hgrow hw3.size (fun r hr => ?_)
            rcases hown3.2 with ⟨rfl, _⟩ | ⟨g', cap', cur', rfl, hbg, _⟩
            · cases hr
            · cases hr; exact hbg
          rw [HC.out] at hown'
          obtain ⟨gt, cap3, rfl, hbt, hgt, hl3, hnc3, hcm3, hcrt⟩ := owns_crow hown' hv'
          have hG' : (G ++ [seg]).length = k + 1 := by simp [hG]
          clear hown' hv' hown hown2 hown3 hw2 hw3 hgrow hN b2 b3 hb hsl hsw hcs hgsw HC z3 hG hv HO
          generalize G ++ [seg] = GG at *
          have hX1 := hXV.keep hw'
          have hY1 := hY.keep hw'
          have hW1 := ab_trans hwV hw'
          clear hXV hcrV hgsV hwV hY hw' hc2 hf2 hgcV
          go_wp2_with (first
            | (go_at_call 13; refine (unit_any _).mono ?_; rintro e Y ⟨rfl, b6⟩)
            | (refine al_cell rfl rfl ?_; intro W7 e7 hZ7 b7; clear e7)
            | (refine st_cell rfl rfl hZ7 rfl rfl ?_; intro W8 hZ8 C8))
          have hcrY := crow_keep hcrt hgt b6
          have hgtY : gt < Y.heap.size := Nat.lt_of_lt_of_le hgt b6.size
          have hXY := hX1.keep b6
          have hYY := hY1.keep b6
          have hwY := ab_trans hW1 b6
          have hw8 : Below Y.heap.size Y W8 := ab_chg b7 C8 (Nat.le_refl _)
          clear b6 b7 C8 hZ7 hX1 hY1 hW1 hcrt hgt hbt
          go_loopw [15] (fun i wr => ∃ j : Nat, j ≤ k + 1 ∧ i = .int .i64 ((j : Int) - 1) ∧ Blk wr Y.heap.size (CA (JL ((GG.drop j).flatten))) 31 ∧ Below Y.heap.size Y wr) (fun i _ => (intOf i + 1).toNat)
          case atStart => exact ⟨k + 1, by omega, by go_num, by rw [List.drop_of_length_le (by omega)]; exact hZ8, hw8⟩
          case round =>
            clear hZ8 hw8
            obtain ⟨j, hj, rfl, hZ, hbz⟩ := hrel
            cases j with
            | zero =>
              have e0 : (((0 : Nat) : Int) - 1) = (-1 : Int) := by omega
              rw [e0]
              clear e0
              rw [List.drop_zero, HF.out] at hZ
              have hA := hXY.keep hbz
              have hB := hYY.keep hbz
              have hwz := ab_trans hwY hbz
              obtain ⟨U, rfl⟩ : ∃ U, U = wr := ⟨_, rfl⟩
              have HU : Hid (eqC (joinF [zc, JL l, zc]) (JL l) = true) := eqC_of (join_units _)
              have hws : ∀ c ∈ [zc, JL l, zc], Wf c := by
                intro c hc
                simp at hc
                rcases hc with rfl | rfl | rfl
                · exact wf_zc
                · exact wf_joinF _ hwf
                · exact wf_zc
              clear hXY hYY hbz hwY
              go_upto_region 27 with fail
              generalize JL l = x at *
              refine wp_region_held_drew (S := fun w' => Blk w' W6.heap.size (CA x) 31 ∧ Blk w' A (CA x) 31 ∧ Blk w' Y.heap.size (CA x) 31 ∧ Below U.heap.size U w') (by kernel_rfl) ⟨hB.drew, hA.drew, hZ.drew, ab_drew (Below.refl _ _)⟩ (fun hHeld => ?_)
              refine takeH (i := 0) (some 96) rfl rfl (by kernel_rfl) (by kernel_rfl) (by kernel_rfl) (fun _ _ _ h => h) (by rfl) (fun w hSw => by (try dsimp only at hSw); exact ld_oper rfl rfl hSw.1) hHeld ?_
              go_frame
              refine takeH (i := 1) (some 97) rfl rfl (by kernel_rfl) (by kernel_rfl) (by kernel_rfl) (fun _ _ _ h => h) (by rfl) (fun w hSw => by (try dsimp only at hSw); exact ld_oper rfl rfl hSw.2.1) hHeld ?_
              go_frame
              refine takeH (i := 2) (some 98) rfl rfl (by kernel_rfl) (by kernel_rfl) (by kernel_rfl) (fun _ _ _ h => h) (by rfl) (fun w hSw => by (try dsimp only at hSw); rw [eq_oper rfl rfl rfl w, eqC_refl]) hHeld ?_
              go_frame
              refine takeH (i := 3) (some 99) rfl rfl (by kernel_rfl) (by kernel_rfl) (by kernel_rfl) (fun _ _ _ h => h) (by rfl) (fun w hSw => by (try dsimp only at hSw); go_simp; try rfl) hHeld ?_
              go_frame
              refine takeH (i := 4) (some 100) rfl rfl (by kernel_rfl) (by kernel_rfl) (by kernel_rfl) (fun _ _ _ h => h) (by rfl) (fun w hSw => by (try dsimp only at hSw); exact ld_oper rfl rfl hSw.2.2.1) hHeld ?_
              go_frame
              refine takeH (i := 5) (some 101) rfl rfl (by kernel_rfl) (by kernel_rfl) (by kernel_rfl) (fun _ _ _ h => h) (by rfl) (fun w hSw => by (try dsimp only at hSw); exact ld_oper rfl rfl hSw.2.1) hHeld ?_
              go_frame
              refine takeH (i := 6) (some 102) rfl rfl (by kernel_rfl) (by kernel_rfl) (by kernel_rfl) (fun _ _ _ h => h) (by rfl) (fun w hSw => by (try dsimp only at hSw); rw [eq_oper rfl rfl rfl w, eqC_refl]) hHeld ?_
              go_frame
              refine takeH (i := 7) (some 103) rfl rfl (by kernel_rfl) (by kernel_rfl) (by kernel_rfl) (fun _ _ _ h => h) (by rfl) (fun w hSw => by (try dsimp only at hSw); go_simp; try rfl) hHeld ?_
              go_frame
              refine takeH (i := 8) (some 104) rfl rfl (by kernel_rfl) (by kernel_rfl) (by kernel_rfl) (fun _ _ _ h => h) (by rfl) (fun w hSw => by (try dsimp only at hSw); go_simp; try rfl) hHeld ?_
              go_frame
              refine takeH (i := 10) (some 106) rfl rfl (by kernel_rfl) (by kernel_rfl) (by kernel_rfl) (fun _ _ _ h => h) (by rfl) (fun w hSw => by (try dsimp only at hSw); exact ld_oper rfl rfl hSw.2.1) hHeld ?_
              go_frame
              refine takeH (i := 14) (some 110) rfl rfl (by kernel_rfl) (by kernel_rfl) (by kernel_rfl) (fun _ _ _ h => h) (by rfl) (fun w hSw => by (try dsimp only at hSw); exact ld_oper rfl rfl hSw.2.1) hHeld ?_
              go_frame
              refine wpAnyH_ready (rs := [9]) (by kernel_rfl) (by simp) (AllReadyH.cons rfl (fun K hK => ?_) AllReadyH.nil)
              go_simp
              refine (unit_any _).mono ?_
              rintro e V1 ⟨rfl, b1⟩
              show K _ _
              refine hK.out _ _ ⟨hHeld.1.keep b1, hHeld.2.1.keep b1, hHeld.2.2.1.keep b1, ab_trans hHeld.2.2.2 b1⟩ (fun hHeld => ?_)
              clear hK K b1
              refine wpAnyH_ready (rs := [11]) (by kernel_rfl) (by simp) (AllReadyH.cons rfl (fun K hK => ?_) AllReadyH.nil)
              go_simp
              refine (unit_any _).mono ?_
              rintro e V2 ⟨rfl, b2⟩
              show K _ _
              refine hK.out _ _ ⟨hHeld.1.keep b2, hHeld.2.1.keep b2, hHeld.2.2.1.keep b2, ab_trans hHeld.2.2.2 b2⟩ (fun hHeld => ?_)
              clear hK K b2
              refine wpAnyH_ready (rs := [12]) (by kernel_rfl) (by simp) (AllReadyH.cons rfl (fun K hK => ?_) AllReadyH.nil)
              rw [if_pos (by rfl)]
              refine bsW3 (some 108) rfl rfl zc x zc (by simp only [List.map_toArray, List.map_cons, List.map_nil]; rfl) fun V3 hL b3 => ?_
              refine hK.out _ _ ⟨hHeld.1.keep b3, hHeld.2.1.keep b3, hHeld.2.2.1.keep b3, ab_trans hHeld.2.2.2 b3⟩ (fun hHeld => ?_)
              clear hK K b3
              go_frame
              refine wpAnyH_ready (rs := [13]) (by kernel_rfl) (by simp) (AllReadyH.cons rfl (fun K hK => ?_) AllReadyH.nil)
              go_simp
              refine (join_any _ 0 3 3 [zc, x, zc] _ rfl (by omega) hws (crow3 hL) hL.lt).mono ?_
              rintro e V4 ⟨rfl, b4⟩
              show K _ _
              refine hK.out _ _ ⟨hHeld.1.keep b4, hHeld.2.1.keep b4, hHeld.2.2.1.keep b4, ab_trans hHeld.2.2.2 b4⟩ (fun hHeld => ?_)
              clear hK K b4
              refine takeH (i := 15) (some 111) rfl rfl (by kernel_rfl) (by kernel_rfl) (by kernel_rfl) (fun _ _ _ h => h) (by rfl) (fun w hSw => by (try dsimp only at hSw); rw [eq_oper rfl rfl rfl w, HU.out]) hHeld ?_
              go_frame
              refine takeH (i := 16) (some 112) rfl rfl (by kernel_rfl) (by kernel_rfl) (by kernel_rfl) (fun _ _ _ h => h) (by rfl) (fun w hSw => by (try dsimp only at hSw); go_simp; try rfl) hHeld ?_
              go_frame
              refine takeH (i := 17) (some 4) rfl rfl (by kernel_rfl) (by kernel_rfl) (by kernel_rfl) (fun _ _ _ h => h) (by rfl) (fun w hSw => by (try dsimp only at hSw); go_simp; try rfl) hHeld ?_
              go_frame
              refine wpAnyH_done (by kernel_rfl) ?_ _
              go_wp2_with fail
              go_ret
              exact ⟨rfl, ab_trans hwz hHeld.2.2.2⟩
            | succ i =>
              have ej : (((i + 1 : Nat) : Int) - 1) = (i : Int) := by omega
              rw [ej]
              clear ej
              obtain ⟨s, hs⟩ : ∃ s, GG[i]? = some s := ⟨GG[i], List.getElem?_eq_getElem (by omega)⟩
              have hji : (i : Int) < (k : Int) + 1 := by omega
              have HD : Hid ((GG.drop i).flatten = s ++ (GG.drop (i + 1)).flatten) := by show _ = _; rw [List.drop_eq_getElem_cons (by omega)]; rw [List.getElem?_eq_getElem (by omega)] at hs; cases hs; rfl
              obtain ⟨pre, hpre⟩ := flat_suffix GG i
              rw [HF.out, HD.out] at hpre
              have hlen : s.length + (GG.drop (i + 1)).flatten.length ≤ 1000 := by have := congrArg List.length hpre; simp only [List.length_append] at this; omega
              have hm1 : ∀ t ∈ s, t ∈ l := fun t ht => by rw [hpre]; simp [ht]
              have hm2 : ∀ t ∈ (GG.drop (i + 1)).flatten, t ∈ l := fun t ht => by rw [hpre]; exact List.mem_append_right _ (List.mem_append_right _ ht)
              have HE : Hid (Eqv (joinF [JL s, JL ((GG.drop (i + 1)).flatten)]) (JL ((GG.drop i).flatten))) := by
                rw [HD.out]; exact join_groups s _ (by omega) (fun t ht => hft t (hm1 t ht)) (fun t ht => hft t (hm2 t ht))
              have hrs : ∀ w', Below Y.heap.size Y w' → w'.rangeAt gt (i * 74) (CA (JL s)).toList := fun w' hb' => by
                have := crow_keep hcrY hgtY hb' i (JL s) (by rw [List.getElem?_map, hs]; rfl)
                rwa [Nat.zero_add] at this
              have hws : ∀ c ∈ [JL s, JL ((GG.drop (i + 1)).flatten)], Wf c := by
                intro c hc
                have key : ∀ m : List (Nat → Int), (∀ t ∈ m, t ∈ l) → Wf (JL m) := fun m hm => wf_joinF _ (fun d hd => by
                  obtain ⟨t, ht, rfl⟩ := List.mem_map.1 hd
                  exact hwf _ (List.mem_map.2 ⟨t, hm t ht, rfl⟩))
                simp at hc
                rcases hc with rfl | rfl
                · exact key _ hm1
                · exact key _ hm2
              clear hs HD hpre hm1 hm2 hlen
              go_upto_region 26 with fail
              generalize JL ((GG.drop (i + 1)).flatten) = x at *
              generalize JL s = y at *
              refine wp_region_held_drew (S := fun w' => Below Y.heap.size Y w') (by kernel_rfl) (ab_drew hbz) (fun hHeld => ?_)
              have hZ := hZ.drew
              refine takeH (i := 0) (some 89) rfl rfl (by kernel_rfl) (by kernel_rfl) (by kernel_rfl) (fun _ _ _ h => h) (by rfl) (fun w hSw => by (try dsimp only at hSw); go_simp; try rfl) hHeld ?_
              go_frame
              refine takeH (i := 1) (some 90) rfl rfl (by kernel_rfl) (by kernel_rfl) (by kernel_rfl) (fun _ _ _ h => h) (by rfl) (fun w hSw => by (try dsimp only at hSw); go_simp; try rfl) hHeld ?_
              go_frame
              refine takeH (i := 2) (some 91) rfl rfl (by kernel_rfl) (by kernel_rfl) (by kernel_rfl) (fun _ _ _ h => h) (by rfl) (fun w hSw => by (try dsimp only at hSw); go_simp; try rfl) hHeld ?_
              go_frame
              refine takeH (i := 3) (some 92) rfl rfl (by kernel_rfl) (by kernel_rfl) (by kernel_rfl) (fun _ _ _ h => h) (by rfl) (fun w hSw => by (try dsimp only at hSw); exact ldm_oper rfl rfl (hrs _ hSw)) hHeld ?_
              go_frame
              refine wpAnyH_ready (rs := [4]) (by kernel_rfl) (by simp) (AllReadyH.cons rfl (fun K hK => ?_) AllReadyH.nil)
              rw [if_pos (by rfl)]
              refine valW (some 93) rfl _ (ld_oper rfl rfl hZ) ?_
              refine hK.out _ _ hHeld (fun hHeld => ?_)
              clear hK K
              go_frame
              refine wpAnyH_ready (rs := [5]) (by kernel_rfl) (by simp) (AllReadyH.cons rfl (fun K hK => ?_) AllReadyH.nil)
              rw [if_pos (by rfl)]
              refine bsW (some 94) rfl rfl y x (by simp only [List.map_toArray, List.map_cons, List.map_nil]; rfl) fun V1 hL b1 => ?_
              have hZ := hZ.keep b1
              refine hK.out _ _ (ab_trans hHeld b1) (fun hHeld => ?_)
              clear hK K b1
              go_frame
              refine wpAnyH_ready (rs := [6]) (by kernel_rfl) (by simp) (AllReadyH.cons rfl (fun K hK => ?_) AllReadyH.nil)
              go_simp
              refine (join_any _ 0 2 2 [y, x] _ rfl (by omega) hws (crow2 hL) hL.lt).mono ?_
              rintro e V2 ⟨rfl, b2⟩
              show K _ _
              have hZ := hZ.keep b2
              refine hK.out _ _ (ab_trans hHeld b2) (fun hHeld => ?_)
              clear hK K b2
              refine wpAnyH_ready (rs := [7]) (by kernel_rfl) (by simp) (AllReadyH.cons rfl (fun K hK => ?_) AllReadyH.nil)
              rw [if_pos (by rfl)]
              refine stW none rfl rfl hZ rfl rfl (info_cell _) (by rw [CA_size, CA_size]) (CA_one _) fun V3 hZ3 C3 => ?_
              refine hK.out _ _ (ab_chg hHeld C3 (Nat.le_refl _)) (fun hHeld => ?_)
              clear hK K
              refine wpAnyH_done (by kernel_rfl) ?_ _
              go_frame
              rw [CA_eqv HE.out] at hZ3
              go_wp2_with fail
              go_roundw
              case rel => exact ⟨i, by omega, by go_num, hZ3, hHeld⟩
              case measure => simp [intOf]
        · obtain ⟨cv, hcv⟩ : ∃ c, cu[k]? = some c := ⟨cu[k], List.getElem?_eq_getElem (by omega)⟩
          obtain rfl := hp2 (by omega)
          have hki : (k : Int) < (m : Int) := by omega
          have c0 := (hb.cell (p := ⟨gc, oc + k, none⟩) (hgcV (by omega))).trans (hc2 k cv hcv)
          have f0 := hf2 k cv hcv
          obtain ⟨f1, f2⟩ := f0
          obtain ⟨t, ht, hat, htn⟩ := cut_to (cv 0) n at0 ha h
          have HT : Hid (wrap64 ((at0 : Int) + wrap64 ((IntKind.u64.wrap (cv 0)).tmod ((n : Int) - (at0 : Int) + 1))) = (t : Int)) := ht
          clear ht
          have hai : (at0 : Int) ≤ (n : Int) := by omega
          go_upto_region 18 with fail
          rw [HT.out]
          clear HT c0 f1 f2 hcv
          have hati : (at0 : Int) ≤ (t : Int) := by omega
          have htni : (t : Int) ≤ (n : Int) := by omega
          have htc : t ≤ cap2 := by omega
          have hci : (t : Int) ≤ (cap2 : Int) := by omega
          have hcrw := crow_keep hcrV hgsV hb
          have hgsw : gs < wr.heap.size := Nat.lt_of_lt_of_le hgsV hb.size
          have hsl : (((l.drop at0).take (t - at0)).map oneS).length = t - at0 := by simp; omega
          have hsw : ∀ c ∈ ((l.drop at0).take (t - at0)).map oneS, Wf c := fun c hc => hwf c (by
            obtain ⟨s, hs, rfl⟩ := List.mem_map.1 hc
            exact List.mem_map.2 ⟨s, List.mem_of_mem_drop (List.mem_of_mem_take hs), rfl⟩)
          have HF : Hid ((G ++ [(l.drop at0).take (t - at0)]).flatten = l.take t) := by
            show _ = _
            rw [List.flatten_append, hGf]
            simp only [List.flatten_cons, List.flatten_nil, List.append_nil]
            rw [List.take_drop, show at0 + (t - at0) = t from by omega]
            conv => rhs; rw [← List.take_append_drop at0 (l.take t)]
            rw [List.take_take, Nat.min_eq_left hat]
          have HC : Hid (flatC (G.map JL) ++ (CA (JL ((l.drop at0).take (t - at0)))).toList = flatC ((G ++ [(l.drop at0).take (t - at0)]).map JL)) := by show _ = _; rw [List.map_append, List.map_singleton, flatC_snoc]
          have hcs := crow_seg hcrw at0 (t - at0)
          clear hGf hcrw
          generalize hsg : (l.drop at0).take (t - at0) = seg at *
          clear hsg
          go_wp2_with (first
            | (refine sl_lh rfl rfl rfl rfl rfl slc_cell (slc_size _) hat htc ?_; intro o' cp ho hcp; clear hcp; have HO : Hid (0 < t - at0 → o' = 0 + at0 * 74) := ho; clear ho)
            | (go_at_call 10; refine (join_at gs o' (at0 * 74) (t - at0) cp (seg.map oneS) _ hsl (by omega) hsw (fun h0 => by rw [HO.out h0, Nat.zero_add]) hcs hgsw).mono ?_; rintro e V2 ⟨rfl, b2⟩; have hown2 := owns_keep hown b2; have hw2 := ab_trans hb b2)
            | (refine bs1 rfl rfl (JL seg) (by simp only [List.map_toArray, List.map_cons, List.map_nil]; rfl) ?_; intro V3 hN b3 z3; have hown3 := owns_keep hown2 b3; have hw3 := ab_trans hw2 b3)
            | (at_builtin; refine wpList_append_own _ rfl _ _ 33 rfl V.heap.size 31 i0 (.agg (CA zc)) 74 592 Try.underlying33 hi hz0 hz1 hz2 (CA_size _) (by decide) _ _ _ rfl hown3 ⟨V2.heap.size, 0, none⟩ 1 1 (CA (JL seg)).toList rfl (by simp [CA_size]) ?c1 ?c2 ?c3 ?c4 ?c5 ?_))
          case c1 => intro j u hj; rw [Addr.add_mid, Nat.zero_add, hN.cell]; simpa using hj
          case c2 => intro u hu; exact (Array.all_eq_true_iff_forall_mem.1 (CA_one (JL seg))) u (by simpa using hu)
          case c3 => unfold maxLen; omega
          case c4 => omega
          case c5 => exact hw3.size
          intro v' w1 hown' hgrow hnil
          have hv' : Hid (v' ≠ .slice none 0 0) := by intro e; first | exact hv (hnil.1 e).1 | exact hnil e
          clear hnil
          have hw' : Below V.heap.size V w1 := by
            refine hw3.grown hgrow hw3.size (fun r hr => ?_)
            rcases hown3.2 with ⟨rfl, _⟩ | ⟨g', cap', cur', rfl, hbg, _⟩
            · cases hr
            · cases hr; exact hbg
          rw [HC.out] at hown'
          go_wp2_with fail
          go_roundw
          case rel => exact ⟨k + 1, t, G ++ [seg], by omega, by go_num, rfl, htn, by simp [hG], HF.out, hown', hv'.out, hw'⟩
          case measure => simp [intOf]; omega
    | succ j =>
      have ej : (((j + 1 : Nat) : Int) - 1) = (j : Int) := by omega
      rw [ej]
      clear ej
      obtain ⟨s, hs⟩ : ∃ s, l[j]? = some s := ⟨l[j], List.getElem?_eq_getElem (by omega)⟩
      have hji : (j : Int) < (n : Int) := by omega
      have HD : Hid (l.drop j = s :: l.drop (j + 1)) := by show _ = _; rw [List.drop_eq_getElem_cons (by omega)]; rw [List.getElem?_eq_getElem (by omega)] at hs; cases hs; rfl
      have HE : Hid (Eqv (joinF [JL (l.drop (j + 1)), oneS s]) (JL (l.drop j))) := by
        rw [HD.out]; exact join_back s _ (by rw [List.length_drop]; omega) (hft s (List.mem_of_getElem? hs)) (fun t ht => hft t (List.mem_of_mem_drop ht))
      have hrs : ∀ w', Below W6.heap.size W6 w' → w'.rangeAt gs (j * 74) (CA (oneS s)).toList := fun w' hb' => by
        have := crow_keep hcr6 hgs6 hb' j (oneS s) (by rw [List.getElem?_map, hs]; rfl)
        rwa [Nat.zero_add] at this
      have hws : ∀ c ∈ [JL (l.drop (j + 1)), oneS s], Wf c := by
        intro c hc
        rcases List.mem_cons.1 hc with rfl | hc
        · exact wf_joinF _ (fun d hd => hwf d (by rw [List.map_drop] at hd; exact List.mem_of_mem_drop hd))
        · simp at hc; subst hc; exact hwf _ (List.mem_map.2 ⟨s, List.mem_of_getElem? hs, rfl⟩)
      clear hs HD
      go_upto_region 11 with fail
      generalize JL (l.drop (j + 1)) = x at *
      refine wp_region_held_drew (S := fun w' => Below W6.heap.size W6 w') (by kernel_rfl) (ab_drew hb) (fun hHeld => ?_)
      have hY := hY.drew
      refine takeH (i := 1) (some 39) rfl rfl (by kernel_rfl) (by kernel_rfl) (by kernel_rfl) (fun _ _ _ h => h) (by rfl) (fun w hSw => by (try dsimp only at hSw); go_simp; try rfl) hHeld ?_
      go_frame
      refine takeH (i := 2) (some 40) rfl rfl (by kernel_rfl) (by kernel_rfl) (by kernel_rfl) (fun _ _ _ h => h) (by rfl) (fun w hSw => by (try dsimp only at hSw); go_simp; try rfl) hHeld ?_
      go_frame
      refine takeH (i := 3) (some 41) rfl rfl (by kernel_rfl) (by kernel_rfl) (by kernel_rfl) (fun _ _ _ h => h) (by rfl) (fun w hSw => by (try dsimp only at hSw); go_simp; try rfl) hHeld ?_
      go_frame
      refine takeH (i := 4) (some 42) rfl rfl (by kernel_rfl) (by kernel_rfl) (by kernel_rfl) (fun _ _ _ h => h) (by rfl) (fun w hSw => by (try dsimp only at hSw); exact ldm_oper rfl rfl (hrs _ hSw)) hHeld ?_
      go_frame
      refine wpAnyH_ready (rs := [0]) (by kernel_rfl) (by simp) (AllReadyH.cons rfl (fun K hK => ?_) AllReadyH.nil)
      rw [if_pos (by rfl)]
      refine valW (some 38) rfl _ (ld_oper rfl rfl hY) ?_
      refine hK.out _ _ hHeld (fun hHeld => ?_)
      clear hK K
      go_frame
      refine wpAnyH_ready (rs := [5]) (by kernel_rfl) (by simp) (AllReadyH.cons rfl (fun K hK => ?_) AllReadyH.nil)
      rw [if_pos (by rfl)]
      refine bsW (some 43) rfl rfl x (oneS s) (by simp only [List.map_toArray, List.map_cons, List.map_nil]; rfl) fun V1 hL b1 => ?_
      have hY := hY.keep b1
      refine hK.out _ _ (ab_trans hHeld b1) (fun hHeld => ?_)
      clear hK K b1
      go_frame
      refine wpAnyH_ready (rs := [6]) (by kernel_rfl) (by simp) (AllReadyH.cons rfl (fun K hK => ?_) AllReadyH.nil)
      go_simp
      refine (join_any _ 0 2 2 [x, oneS s] _ rfl (by omega) hws (crow2 hL) hL.lt).mono ?_
      rintro e V2 ⟨rfl, b2⟩
      show K _ _
      have hY := hY.keep b2
      refine hK.out _ _ (ab_trans hHeld b2) (fun hHeld => ?_)
      clear hK K b2
      refine wpAnyH_ready (rs := [7]) (by kernel_rfl) (by simp) (AllReadyH.cons rfl (fun K hK => ?_) AllReadyH.nil)
      rw [if_pos (by rfl)]
      refine stW none rfl rfl hY rfl rfl (info_cell _) (by rw [CA_size, CA_size]) (CA_one _) fun V3 hY3 C3 => ?_
      refine hK.out _ _ (ab_chg hHeld C3 (Nat.le_refl _)) (fun hHeld => ?_)
      clear hK K
      refine wpAnyH_done (by kernel_rfl) ?_ _
      go_frame
      rw [CA_eqv HE.out] at hY3
      go_wp2_with fail
      go_roundw
      case rel => exact ⟨j, by omega, by go_num, hY3, hHeld⟩
      case measure => simp [intOf]
end Go.Proofs.Ytnppdachbfcfkaa.cellGroups
