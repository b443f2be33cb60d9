/-
  The chapter's examples: estuarylaw02.alive returns true.
-/
import Derived.Test.YtnppdachbfcfkaaOne
namespace Go.Proofs.Ytnppdachbfcfkaa
open Go.RowKit Go.Shelf
set_option linter.unusedVariables false

theorem slice2 (a b : Nat → Int) (w : World) : (Instr.buildSlice 33 2 #[(0, .agg (CA a)), (1, .agg (CA b))]).run Try.prog w = .ok (.slice (some ⟨w.heap.size, 0, none⟩) 2 2) (w.alloc (.cells (CA a ++ CA b) 31)) := by kernel_rfl
theorem bsW {o : Oper} {a : Act} {w : World} {K : Act → World → Prop} {Q : Exit → Act → World → Prop} (d : Option Tmp) (hd : o.dst = d) {parts : Array (Nat × Operand)} (ho : o.op = .buildSlice 33 2 parts) (x y : Nat → Int)
    (hl : parts.map (fun (i, x) => (i, a.eval x)) = #[(0, .agg (CA x)), (1, .agg (CA y))])
    (h : ∀ W', Blk W' w.heap.size (CA x ++ CA y) 31 → Below w.heap.size w W' → K (a.put d (.slice (some ⟨w.heap.size, 0, none⟩) 2 2)) W') : o.wp Try.prog a w K Q := by
  subst hd
  unfold Oper.wp execOp
  simp only [ho, Sem.run_bind, hl, slice2, Result.andThen_ok]
  exact h _ (Blk.new _ _ _) ((Below.refl _ _).alloc (Nat.le_refl _) _)
theorem crow2 {W : World} {g : Nat} {x y : Nat → Int} {t : TypeId} (h : Blk W g (CA x ++ CA y) t) : CRow W g 0 [x, y] := by
  intro j c hc i v hv
  rw [h.cell]
  match j with
  | 0 =>
    simp at hc; subst hc
    have hi : i < 74 := by have := (List.getElem?_eq_some_iff.1 hv).1; simpa [CA_size] using this
    rw [Nat.zero_mul, Nat.zero_add, Array.getElem?_append_left (by rw [CA_size]; exact hi)]; simpa using hv
  | 1 =>
    simp at hc; subst hc
    have hi : i < 74 := by have := (List.getElem?_eq_some_iff.1 hv).1; simpa [CA_size] using this
    rw [Nat.one_mul, Nat.zero_add, Array.getElem?_append_right (by rw [CA_size]; omega), CA_size, Nat.add_sub_cancel_left]; simpa using hv
  | n + 2 => simp at hc
theorem wf_one (s q t v : Int) (hs : -9223372036854775808 ≤ s ∧ s ≤ 9223372036854775807) (hq : -9223372036854775808 ≤ q ∧ q ≤ 9223372036854775807) (ht : -9223372036854775808 ≤ t ∧ t ≤ 9223372036854775807) (hv : -9223372036854775808 ≤ v ∧ v ≤ 9223372036854775807) : Wf (oneF s q t v) := by
  have hh := wh_bd v
  have hl := wl_bd v
  refine ⟨?_, fun i hi h2 => ?_⟩
  · have : oneF s q t v 2 = wl v := by unfold oneF; rw [cup_ne _ _ _ _ (by omega)]; rfl
    rw [this]; exact hl
  · unfold oneF cup oneH
    repeat' split
    all_goals omega

set_option maxHeartbeats 1000000 in
theorem alive2_any (w : World) : Calls Try.prog 9 #[] w fun e w' => e = .returned (.bool true) ∧ Below w.heap.size w w' := by
  have hwf : ∀ c ∈ [oneF 1 3 10 (-5), oneF 0 9 10 7], Wf c := by
    intro c hc
    simp at hc
    rcases hc with rfl | rfl <;> exact wf_one _ _ _ _ (by omega) (by omega) (by omega) (by omega)
  go_enter Try.func9, Try.ntmps9
  go_upto_region 2 with (first
    | (go_at_call 22; refine (one_any 1 3 0 10 0 (-5) _ (by omega) (by omega)).mono ?_; rintro e W0 ⟨rfl, b0⟩)
    | (refine al_cell rfl rfl ?_; intro Wx ex hAx gx; clear ex)
    | (refine st_cell rfl rfl hAx rfl rfl ?_; intro W1 hA1 C1))
  have hw1 : Below w.heap.size w W1 := ab_chg (ab_trans b0 gx) C1 b0.size
  clear b0 gx C1 hAx
  try go_frame
  go_cut [2] from 5 to 9 (fun p wc => ∃ X : Nat, p = .pointer (some ⟨X, 0, none⟩) ∧ Blk wc X (CA (joinF [oneF 1 3 10 (-5), oneF 0 9 10 7])) 31 ∧ Blk wc W0.heap.size (CA (oneF 1 3 10 (-5))) 31 ∧ Below w.heap.size w wc)
  case first =>
    have hAlt := hA1.lt
    refine wp_region_held_drew (S := fun w' => Blk w' W0.heap.size (CA (oneF 1 3 10 (-5))) 31 ∧ Below W1.heap.size W1 w') (by kernel_rfl) ⟨hA1.drew, (Below.refl _ _).drew⟩ (fun hHeld => ?_)
    refine takeH (i := 0) (some 5) rfl rfl (by kernel_rfl) (by kernel_rfl) (by kernel_rfl) (fun _ _ _ h => h) (by rfl) (fun w hSw => ld_oper rfl rfl hSw.1) hHeld ?_
    go_frame
    refine takeH (i := 1) (some 6) rfl rfl (by kernel_rfl) (by kernel_rfl) (by kernel_rfl) (fun _ _ _ h => h) (by rfl) (fun w hSw => by go_simp; try rfl) hHeld ?_
    go_frame
    refine wpAnyH_ready (rs := [2, 5]) (by kernel_rfl) (by simp) ?_
    refine AllReadyH.cons rfl (fun K hK => ?_) (AllReadyH.cons rfl (fun K hK => ?_) AllReadyH.nil)
    · go_simp
      refine (one_any 0 9 0 10 0 7 _ (by omega) (by omega)).mono ?_
      rintro e Wn ⟨rfl, bn⟩
      show K _ _
      refine hK.out _ _ ⟨hHeld.1.keep bn, ab_trans hHeld.2 bn⟩ (fun hHeld => ?_)
      clear hK K bn
      refine wpAnyH_ready (rs := [3, 5]) (by kernel_rfl) (by simp) ?_
      refine AllReadyH.cons rfl (fun K hK => ?_) (AllReadyH.cons rfl (fun K hK => ?_) AllReadyH.nil)
      · rw [if_pos (by rfl)]
        refine bsW (some 8) rfl rfl (oneF 1 3 10 (-5)) (oneF 0 9 10 7) (by simp only [List.map_toArray, List.map_cons, List.map_nil]; rfl) fun Wn hL bn => ?_
        refine hK.out _ _ ⟨hHeld.1.keep bn, ab_trans hHeld.2 bn⟩ (fun hHeld => ?_)
        clear hK K bn
        go_frame
        refine wpAnyH_ready (rs := [4, 5]) (by kernel_rfl) (by simp) ?_
        refine AllReadyH.cons rfl (fun K hK => ?_) (AllReadyH.cons rfl (fun K hK => ?_) AllReadyH.nil)
        · go_simp
          refine (join_any _ 0 2 2 [oneF 1 3 10 (-5), oneF 0 9 10 7] _ rfl (by omega) hwf (crow2 hL) hL.lt).mono ?_
          rintro e Wn ⟨rfl, bn⟩
          show K _ _
          refine hK.out _ _ ⟨hHeld.1.keep bn, ab_trans hHeld.2 bn⟩ (fun hHeld => ?_)
          clear hK K bn
          refine wpAnyH_ready (rs := [5]) (by kernel_rfl) (by simp) ?_
          refine AllReadyH.cons rfl (fun K hK => ?_) AllReadyH.nil
          rw [if_pos (by rfl)]
          refine alW (some 2) rfl rfl (CA zc) (zero_cell _) fun Wn hX bn => ?_
          have hge := hHeld.2.size
          refine hK.out _ _ ⟨hHeld.1.keep bn, ab_trans hHeld.2 bn⟩ (fun hHeld => ?_)
          clear hK K bn
          go_frame
          refine wpAnyH_ready (rs := [6]) (by kernel_rfl) (by simp) ?_
          refine AllReadyH.cons rfl (fun K hK => ?_) AllReadyH.nil
          rw [if_pos (by rfl)]
          refine stW none rfl rfl hX rfl rfl (info_cell _) (by rw [CA_size, CA_size]) (CA_one _) fun Wn hX C => ?_
          refine hK.out _ _ ⟨hHeld.1.chg C (by omega), ab_chg hHeld.2 C (by omega)⟩ (fun hHeld => ?_)
          clear hK K
          refine wpAnyH_done (by kernel_rfl) ?_ _
          go_frame
          go_wp2_with fail
          go_meet
          case rel => exact ⟨_, rfl, hX, hHeld.1, hw1.trans (hHeld.2.mono hw1.size)⟩
        · rw [if_pos (by rfl)]
          refine alW (some 2) rfl rfl (CA zc) (zero_cell _) fun Wn hX bn => ?_
          have hge := hHeld.2.size
          have hL := hL.keep bn
          refine hK.out _ _ ⟨hHeld.1.keep bn, ab_trans hHeld.2 bn⟩ (fun hHeld => ?_)
          clear hK K bn
          go_frame
          refine wpAnyH_ready (rs := [4]) (by kernel_rfl) (by simp) ?_
          refine AllReadyH.cons rfl (fun K hK => ?_) AllReadyH.nil
          go_simp
          refine (join_any _ 0 2 2 [oneF 1 3 10 (-5), oneF 0 9 10 7] _ rfl (by omega) hwf (crow2 hL) hL.lt).mono ?_
          rintro e Wn ⟨rfl, bn⟩
          show K _ _
          have hX := hX.keep bn
          refine hK.out _ _ ⟨hHeld.1.keep bn, ab_trans hHeld.2 bn⟩ (fun hHeld => ?_)
          clear hK K bn
          refine wpAnyH_ready (rs := [6]) (by kernel_rfl) (by simp) ?_
          refine AllReadyH.cons rfl (fun K hK => ?_) AllReadyH.nil
          rw [if_pos (by rfl)]
          refine stW none rfl rfl hX rfl rfl (info_cell _) (by rw [CA_size, CA_size]) (CA_one _) fun Wn hX C => ?_
          refine hK.out _ _ ⟨hHeld.1.chg C (by omega), ab_chg hHeld.2 C (by omega)⟩ (fun hHeld => ?_)
          clear hK K
          refine wpAnyH_done (by kernel_rfl) ?_ _
          go_frame
          go_wp2_with fail
          go_meet
          case rel => exact ⟨_, rfl, hX, hHeld.1, hw1.trans (hHeld.2.mono hw1.size)⟩
      · rw [if_pos (by rfl)]
        refine alW (some 2) rfl rfl (CA zc) (zero_cell _) fun Wn hX bn => ?_
        have hge := hHeld.2.size
        refine hK.out _ _ ⟨hHeld.1.keep bn, ab_trans hHeld.2 bn⟩ (fun hHeld => ?_)
        clear hK K bn
        go_frame
        refine wpAnyH_ready (rs := [3]) (by kernel_rfl) (by simp) ?_
        refine AllReadyH.cons rfl (fun K hK => ?_) AllReadyH.nil
        rw [if_pos (by rfl)]
        refine bsW (some 8) rfl rfl (oneF 1 3 10 (-5)) (oneF 0 9 10 7) (by simp only [List.map_toArray, List.map_cons, List.map_nil]; rfl) fun Wn hL bn => ?_
        have hX := hX.keep bn
        refine hK.out _ _ ⟨hHeld.1.keep bn, ab_trans hHeld.2 bn⟩ (fun hHeld => ?_)
        clear hK K bn
        go_frame
        refine wpAnyH_ready (rs := [4]) (by kernel_rfl) (by simp) ?_
        refine AllReadyH.cons rfl (fun K hK => ?_) AllReadyH.nil
        go_simp
        refine (join_any _ 0 2 2 [oneF 1 3 10 (-5), oneF 0 9 10 7] _ rfl (by omega) hwf (crow2 hL) hL.lt).mono ?_
        rintro e Wn ⟨rfl, bn⟩
        show K _ _
        have hX := hX.keep bn
        refine hK.out _ _ ⟨hHeld.1.keep bn, ab_trans hHeld.2 bn⟩ (fun hHeld => ?_)
        clear hK K bn
        refine wpAnyH_ready (rs := [6]) (by kernel_rfl) (by simp) ?_
        refine AllReadyH.cons rfl (fun K hK => ?_) AllReadyH.nil
        rw [if_pos (by rfl)]
        refine stW none rfl rfl hX rfl rfl (info_cell _) (by rw [CA_size, CA_size]) (CA_one _) fun Wn hX C => ?_
        refine hK.out _ _ ⟨hHeld.1.chg C (by omega), ab_chg hHeld.2 C (by omega)⟩ (fun hHeld => ?_)
        clear hK K
        refine wpAnyH_done (by kernel_rfl) ?_ _
        go_frame
        go_wp2_with fail
        go_meet
        case rel => exact ⟨_, rfl, hX, hHeld.1, hw1.trans (hHeld.2.mono hw1.size)⟩
    · rw [if_pos (by rfl)]
      refine alW (some 2) rfl rfl (CA zc) (zero_cell _) fun Wn hX bn => ?_
      have hge := hHeld.2.size
      refine hK.out _ _ ⟨hHeld.1.keep bn, ab_trans hHeld.2 bn⟩ (fun hHeld => ?_)
      clear hK K bn
      go_frame
      refine wpAnyH_ready (rs := [2]) (by kernel_rfl) (by simp) ?_
      refine AllReadyH.cons rfl (fun K hK => ?_) AllReadyH.nil
      go_simp
      refine (one_any 0 9 0 10 0 7 _ (by omega) (by omega)).mono ?_
      rintro e Wn ⟨rfl, bn⟩
      show K _ _
      have hX := hX.keep bn
      refine hK.out _ _ ⟨hHeld.1.keep bn, ab_trans hHeld.2 bn⟩ (fun hHeld => ?_)
      clear hK K bn
      refine wpAnyH_ready (rs := [3]) (by kernel_rfl) (by simp) ?_
      refine AllReadyH.cons rfl (fun K hK => ?_) AllReadyH.nil
      rw [if_pos (by rfl)]
      refine bsW (some 8) rfl rfl (oneF 1 3 10 (-5)) (oneF 0 9 10 7) (by simp only [List.map_toArray, List.map_cons, List.map_nil]; rfl) fun Wn hL bn => ?_
      have hX := hX.keep bn
      refine hK.out _ _ ⟨hHeld.1.keep bn, ab_trans hHeld.2 bn⟩ (fun hHeld => ?_)
      clear hK K bn
      go_frame
      refine wpAnyH_ready (rs := [4]) (by kernel_rfl) (by simp) ?_
      refine AllReadyH.cons rfl (fun K hK => ?_) AllReadyH.nil
      go_simp
      refine (join_any _ 0 2 2 [oneF 1 3 10 (-5), oneF 0 9 10 7] _ rfl (by omega) hwf (crow2 hL) hL.lt).mono ?_
      rintro e Wn ⟨rfl, bn⟩
      show K _ _
      have hX := hX.keep bn
      refine hK.out _ _ ⟨hHeld.1.keep bn, ab_trans hHeld.2 bn⟩ (fun hHeld => ?_)
      clear hK K bn
      refine wpAnyH_ready (rs := [6]) (by kernel_rfl) (by simp) ?_
      refine AllReadyH.cons rfl (fun K hK => ?_) AllReadyH.nil
      rw [if_pos (by rfl)]
      refine stW none rfl rfl hX rfl rfl (info_cell _) (by rw [CA_size, CA_size]) (CA_one _) fun Wn hX C => ?_
      refine hK.out _ _ ⟨hHeld.1.chg C (by omega), ab_chg hHeld.2 C (by omega)⟩ (fun hHeld => ?_)
      clear hK K
      refine wpAnyH_done (by kernel_rfl) ?_ _
      go_frame
      go_wp2_with fail
      go_meet
      case rel => exact ⟨_, rfl, hX, hHeld.1, hw1.trans (hHeld.2.mono hw1.size)⟩
  case rest =>
    obtain ⟨X, rfl, hX, hA, hw⟩ := hcut
    obtain ⟨x0, x1, x2, x3, x4, x5, x6, x7, x8⟩ := hX.nine
    obtain ⟨y0, y1, y2, y3, y4, y5, y6, y7, y8⟩ := hA.nine
    have x12 := hX.at (CA_at64 _ 12 (by omega) (by omega))
    have y12 := hA.at (CA_at64 _ 12 (by omega) (by omega))
    rw [show joinF [oneF 1 3 10 (-5), oneF 0 9 10 7] 1 = 0 from by decide +kernel] at x1
    rw [show joinF [oneF 1 3 10 (-5), oneF 0 9 10 7] 2 = 2 from by decide +kernel] at x2
    rw [show joinF [oneF 1 3 10 (-5), oneF 0 9 10 7] 5 = 10 from by decide +kernel] at x5
    rw [show joinF [oneF 1 3 10 (-5), oneF 0 9 10 7] 6 = 1 from by decide +kernel] at x6
    rw [show joinF [oneF 1 3 10 (-5), oneF 0 9 10 7] 7 = 3 from by decide +kernel] at x7
    rw [show joinF [oneF 1 3 10 (-5), oneF 0 9 10 7] 8 = -5 from by decide +kernel] at x8
    rw [show joinF [oneF 1 3 10 (-5), oneF 0 9 10 7] 12 = 2 from by decide +kernel] at x12
    rw [show oneF 1 3 10 (-5) 0 = 1 from by decide +kernel] at y0
    rw [show oneF 1 3 10 (-5) 3 = -5 from by decide +kernel] at y3
    rw [show oneF 1 3 10 (-5) 12 = 1 from by decide +kernel] at y12
    clear x0 x3 x4 y1 y2 y4 y5 y6 y7 y8
    go_wp2_with fail
    go_ret
    exact ⟨rfl, hw⟩
end Go.Proofs.Ytnppdachbfcfkaa
