/-
  The cell of one sample: cell.One.
  The chapter's examples: estuarylaw02.alive returns true.
-/
import Derived.Test.YtfnageillhpjpaaPk31
import Derived.Test.YtfnageillhpjpaaPk13
import Derived.Deep.RegionHeld3
import Derived.Maps.RangeWalk
import Derived.Deep.CutRange
namespace Go.Proofs.Ytfnageillhpjpaa
set_option maxRecDepth 100000
open Go.RowKit Go.Shelf
set_option linter.unusedVariables false

/-- The numbers of a sample's cell that aren't of the Hist. -/
def oneH (s q t v : Int) : Nat → Int := fun i =>
  if i = 0 then 1 else if i = 1 then wh v else if i = 2 then wl v else if i = 3 then v else if i = 4 then v
  else if i = 5 then t else if i = 6 then s else if i = 7 then q else if i = 8 then v else 0
/-- The cell of a sample. -/
def oneF (s q t v : Int) : Nat → Int := cup (oneH s q t v) (9 + Lib.bitLen v.natAbs) 1

theorem built_one (s q t v h l : Int) : Try.prog.built 54 [(0, .int .i64 1), (1, .agg #[.int .i64 h, .int .u64 l]), (2, .int .i64 v), (3, .int .i64 v), (4, .agg #[.int .i64 t, .int .i64 s, .int .i64 q, .int .i64 v])] =
    some (CA (fun i => if i = 0 then 1 else if i = 1 then h else if i = 2 then l else if i = 3 then v else if i = 4 then v
      else if i = 5 then t else if i = 6 then s else if i = 7 then q else if i = 8 then v else 0)) := by kernel_rfl

set_option maxRecDepth 100000 in
set_option maxHeartbeats 400000 in
theorem one_any (s q k t y v : Int) (w : World) (h0 : -9223372036854775808 ≤ v) (h1 : v ≤ 9223372036854775807) :
    Calls Try.prog 54 #[.int .i64 s, .agg #[.int .i64 q, .int .i64 k, .int .i64 t, .int .i64 y, .int .i64 v]] w fun e w' => e = .returned (.agg (CA (oneF s q t v))) ∧ Below w.heap.size w w' := by
  go_enter Try.func54, Try.ntmps54
  go_upto_region 1 with (refine al_cell rfl rfl ?_; intro W1 e1 hR1 hg1)
  have bA : ∀ W2, Below W1.heap.size W1 W2 → w.heap.size + 2 ≤ W2.heap.size := fun W2 hb => by have := hb.size; rw [e1] at this; simp at this; omega
  have hR1' : Blk W1 (w.heap.size + 1) (CA zc) 54 := by simpa using hR1
  have hw1 : Below w.heap.size w W1 := by rw [e1]; exact ab_alloc (ab_alloc (Below.refl _ _) _) _
  have hO : W1.cell? ⟨w.heap.size, 0, none⟩ = some (.int .i64 q) ∧ W1.cell? ⟨w.heap.size, 2, none⟩ = some (.int .i64 t) ∧ W1.cell? ⟨w.heap.size, 4, none⟩ = some (.int .i64 v) := by rw [e1]; refine ⟨by simp [go_sem], by simp [go_sem], by simp [go_sem]⟩
  clear hR1 hg1 e1
  have hz1 := bA _ (Below.refl _ W1)
  go_frame
  simp only [World.size_alloc]
  go_cut [5] from 6 to 21 (fun p wc => ∃ X : Nat, p = .pointer (some ⟨X, 0, none⟩) ∧ w.heap.size + 2 ≤ X ∧ Blk wc X (CA (oneH s q t v)) 54 ∧ Blk wc (w.heap.size + 1) (CA zc) 54 ∧ wc.cell? ⟨w.heap.size, 4, none⟩ = some (.int .i64 v) ∧ Below w.heap.size w wc)
  case first =>
    refine wp_region_held_drew (S := fun w' => w'.cell? ⟨w.heap.size, 0, none⟩ = some (.int .i64 q) ∧ w'.cell? ⟨w.heap.size, 2, none⟩ = some (.int .i64 t) ∧ w'.cell? ⟨w.heap.size, 4, none⟩ = some (.int .i64 v) ∧ Below W1.heap.size W1 w') (by kernel_rfl) ?_ (fun hHeld => ?_)
    · exact ⟨by simpa using hO.1, by simpa using hO.2.1, by simpa using hO.2.2, (Below.refl _ _).drew⟩
    refine takeH (i := 0) (some 6) rfl rfl (by kernel_rfl) (by kernel_rfl) (by kernel_rfl) (fun _ _ _ h => h) (by rfl) (fun w hSw => by (try dsimp only at hSw); obtain ⟨s0, s2, s4, _⟩ := hSw; go_simp; try rfl) hHeld ?_
    go_frame
    refine takeH (i := 1) (some 7) rfl rfl (by kernel_rfl) (by kernel_rfl) (by kernel_rfl) (fun _ _ _ h => h) (by rfl) (fun w hSw => by (try dsimp only at hSw); obtain ⟨s0, s2, s4, _⟩ := hSw; go_simp; try rfl) hHeld ?_
    go_frame
    refine takeH (i := 3) (some 9) rfl rfl (by kernel_rfl) (by kernel_rfl) (by kernel_rfl) (fun _ _ _ h => h) (by rfl) (fun w hSw => by (try dsimp only at hSw); obtain ⟨s0, s2, s4, _⟩ := hSw; go_simp; try rfl) hHeld ?_
    go_frame
    refine takeH (i := 4) (some 10) rfl rfl (by kernel_rfl) (by kernel_rfl) (by kernel_rfl) (fun _ _ _ h => h) (by rfl) (fun w hSw => by (try dsimp only at hSw); obtain ⟨s0, s2, s4, _⟩ := hSw; go_simp; try rfl) hHeld ?_
    go_frame
    refine takeH (i := 5) (some 11) rfl rfl (by kernel_rfl) (by kernel_rfl) (by kernel_rfl) (fun _ _ _ h => h) (by rfl) (fun w hSw => by (try dsimp only at hSw); obtain ⟨s0, s2, s4, _⟩ := hSw; go_simp; try rfl) hHeld ?_
    go_frame
    refine takeH (i := 6) (some 12) rfl rfl (by kernel_rfl) (by kernel_rfl) (by kernel_rfl) (fun _ _ _ h => h) (by rfl) (fun w hSw => by (try dsimp only at hSw); obtain ⟨s0, s2, s4, _⟩ := hSw; go_simp; try rfl) hHeld ?_
    go_frame
    refine takeH (i := 7) (some 13) rfl rfl (by kernel_rfl) (by kernel_rfl) (by kernel_rfl) (fun _ _ _ h => h) (by rfl) (fun w hSw => by (try dsimp only at hSw); obtain ⟨s0, s2, s4, _⟩ := hSw; go_simp; try rfl) hHeld ?_
    go_frame
    refine takeH (i := 8) (some 14) rfl rfl (by kernel_rfl) (by kernel_rfl) (by kernel_rfl) (fun _ _ _ h => h) (by rfl) (fun w hSw => by (try dsimp only at hSw); obtain ⟨s0, s2, s4, _⟩ := hSw; go_simp; try rfl) hHeld ?_
    go_frame
    refine takeH (i := 9) (some 15) rfl rfl (by kernel_rfl) (by kernel_rfl) (by kernel_rfl) (fun _ _ _ h => h) (by rfl) (fun w hSw => by (try dsimp only at hSw); obtain ⟨s0, s2, s4, _⟩ := hSw; go_simp; try rfl) hHeld ?_
    go_frame
    refine takeH (i := 10) (some 16) rfl rfl (by kernel_rfl) (by kernel_rfl) (by kernel_rfl) (fun _ _ _ h => h) (by rfl) (fun w hSw => by (try dsimp only at hSw); obtain ⟨s0, s2, s4, _⟩ := hSw; go_simp; try rfl) hHeld ?_
    go_frame
    refine takeH (i := 11) (some 17) rfl rfl (by kernel_rfl) (by kernel_rfl) (by kernel_rfl) (fun _ _ _ h => h) (by rfl) (fun w hSw => by (try dsimp only at hSw); obtain ⟨s0, s2, s4, _⟩ := hSw; go_simp; try rfl) hHeld ?_
    go_frame
    refine takeH (i := 12) (some 18) rfl rfl (by kernel_rfl) (by kernel_rfl) (by kernel_rfl) (fun _ _ _ h => h) (by rfl) (fun w hSw => by (try dsimp only at hSw); obtain ⟨s0, s2, s4, _⟩ := hSw; go_simp; try rfl) hHeld ?_
    go_frame
    refine takeH (i := 13) (some 19) rfl rfl (by kernel_rfl) (by kernel_rfl) (by kernel_rfl) (fun _ _ _ h => h) (by rfl) (fun w hSw => by (try dsimp only at hSw); obtain ⟨s0, s2, s4, _⟩ := hSw; go_simp; try rfl) hHeld ?_
    go_frame
    refine takeH (i := 14) (some 20) rfl rfl (by kernel_rfl) (by kernel_rfl) (by kernel_rfl) (fun _ _ _ h => h) (by rfl) (fun w hSw => by (try dsimp only at hSw); obtain ⟨s0, s2, s4, _⟩ := hSw; go_simp; try rfl) hHeld ?_
    go_frame
    refine wpAnyH_ready (rs := [2, 16]) (by kernel_rfl) (by simp) ?_
    refine AllReadyH.cons rfl (fun K hK => ?_) (AllReadyH.cons rfl (fun K hK => ?_) AllReadyH.nil)
    · -- the call comes first
      go_simp
      refine (of_any _ _ h0 h1).mono ?_
      rintro e W2 ⟨rfl, b2⟩
      show K _ _
      refine hK.out _ _ ⟨(b2.cell (p := ⟨w.heap.size, 0, none⟩) (by have := bA _ hHeld.2.2.2; dsimp only; omega)).trans hHeld.1, (b2.cell (p := ⟨w.heap.size, 2, none⟩) (by have := bA _ hHeld.2.2.2; dsimp only; omega)).trans hHeld.2.1, (b2.cell (p := ⟨w.heap.size, 4, none⟩) (by have := bA _ hHeld.2.2.2; dsimp only; omega)).trans hHeld.2.2.1, ab_trans hHeld.2.2.2 b2⟩ (fun hHeld => ?_)
      clear hK K
      refine takeH (i := 15) (some 21) rfl rfl (by kernel_rfl) (by kernel_rfl) (by kernel_rfl) (fun _ _ _ h => h) (by rfl) (fun w hSw => bd_run rfl (built_one s q t v (wh v) (wl v)) (by simp only [List.map_toArray, List.map_cons, List.map_nil]; rfl) w) hHeld ?_
      go_frame
      refine wpAnyH_ready (rs := [16]) (by kernel_rfl) (by simp) (AllReadyH.cons rfl (fun K hK => ?_) AllReadyH.nil)
      rw [if_pos (by rfl)]
      refine alW (some 5) rfl rfl (CA zc) (zero_cell _) fun W3 hX3 b3 => ?_
      have hge := bA _ hHeld.2.2.2
      have hge2 := hHeld.2.2.2.size
      refine hK.out _ _ ⟨(b3.cell (p := ⟨w.heap.size, 0, none⟩) (by have := bA _ hHeld.2.2.2; dsimp only; omega)).trans hHeld.1, (b3.cell (p := ⟨w.heap.size, 2, none⟩) (by have := bA _ hHeld.2.2.2; dsimp only; omega)).trans hHeld.2.1, (b3.cell (p := ⟨w.heap.size, 4, none⟩) (by have := bA _ hHeld.2.2.2; dsimp only; omega)).trans hHeld.2.2.1, ab_trans hHeld.2.2.2 b3⟩ (fun hHeld => ?_)
      clear hK K
      go_frame
      refine wpAnyH_ready (rs := [17]) (by kernel_rfl) (by simp) (AllReadyH.cons rfl (fun K hK => ?_) AllReadyH.nil)
      rw [if_pos (by rfl)]
      refine stW none rfl rfl hX3 rfl rfl (info_cell _) (by rw [CA_size, CA_size]) (CA_one _) fun W4 hX4 C4 => ?_
      refine hK.out _ _ ⟨((C4.below (n := w.heap.size + 1) (by omega)).cell (p := ⟨w.heap.size, 0, none⟩) (by dsimp only; omega)).trans hHeld.1, ((C4.below (n := w.heap.size + 1) (by omega)).cell (p := ⟨w.heap.size, 2, none⟩) (by dsimp only; omega)).trans hHeld.2.1, ((C4.below (n := w.heap.size + 1) (by omega)).cell (p := ⟨w.heap.size, 4, none⟩) (by dsimp only; omega)).trans hHeld.2.2.1, ab_chg hHeld.2.2.2 C4 (by omega)⟩ (fun hHeld => ?_)
      clear hK K
      refine wpAnyH_done (by kernel_rfl) ?_ _
      go_frame
      go_wp2_with fail
      go_meet
      case rel => exact ⟨_, rfl, by omega, hX4, hR1'.keep hHeld.2.2.2, hHeld.2.2.1, hw1.trans (hHeld.2.2.2.mono (by omega))⟩
    · -- the block comes first
      rw [if_pos (by rfl)]
      refine alW (some 5) rfl rfl (CA zc) (zero_cell _) fun W3 hX3 b3 => ?_
      have hge := bA _ hHeld.2.2.2
      have hge2 := hHeld.2.2.2.size
      refine hK.out _ _ ⟨(b3.cell (p := ⟨w.heap.size, 0, none⟩) (by have := bA _ hHeld.2.2.2; dsimp only; omega)).trans hHeld.1, (b3.cell (p := ⟨w.heap.size, 2, none⟩) (by have := bA _ hHeld.2.2.2; dsimp only; omega)).trans hHeld.2.1, (b3.cell (p := ⟨w.heap.size, 4, none⟩) (by have := bA _ hHeld.2.2.2; dsimp only; omega)).trans hHeld.2.2.1, ab_trans hHeld.2.2.2 b3⟩ (fun hHeld => ?_)
      clear hK K
      go_frame
      refine wpAnyH_ready (rs := [2]) (by kernel_rfl) (by simp) (AllReadyH.cons rfl (fun K hK => ?_) AllReadyH.nil)
      go_simp
      refine (of_any _ _ h0 h1).mono ?_
      rintro e W2 ⟨rfl, b2⟩
      show K _ _
      have hX2 := hX3.keep b2
      refine hK.out _ _ ⟨(b2.cell (p := ⟨w.heap.size, 0, none⟩) (by have := bA _ hHeld.2.2.2; dsimp only; omega)).trans hHeld.1, (b2.cell (p := ⟨w.heap.size, 2, none⟩) (by have := bA _ hHeld.2.2.2; dsimp only; omega)).trans hHeld.2.1, (b2.cell (p := ⟨w.heap.size, 4, none⟩) (by have := bA _ hHeld.2.2.2; dsimp only; omega)).trans hHeld.2.2.1, ab_trans hHeld.2.2.2 b2⟩ (fun hHeld => ?_)
      clear hK K
      refine takeH (i := 15) (some 21) rfl rfl (by kernel_rfl) (by kernel_rfl) (by kernel_rfl) (fun _ _ _ h => h) (by rfl) (fun w hSw => bd_run rfl (built_one s q t v (wh v) (wl v)) (by simp only [List.map_toArray, List.map_cons, List.map_nil]; rfl) w) hHeld ?_
      go_frame
      refine wpAnyH_ready (rs := [17]) (by kernel_rfl) (by simp) (AllReadyH.cons rfl (fun K hK => ?_) AllReadyH.nil)
      rw [if_pos (by rfl)]
      refine stW none rfl rfl hX2 rfl rfl (info_cell _) (by rw [CA_size, CA_size]) (CA_one _) fun W4 hX4 C4 => ?_
      refine hK.out _ _ ⟨((C4.below (n := w.heap.size + 1) (by omega)).cell (p := ⟨w.heap.size, 0, none⟩) (by dsimp only; omega)).trans hHeld.1, ((C4.below (n := w.heap.size + 1) (by omega)).cell (p := ⟨w.heap.size, 2, none⟩) (by dsimp only; omega)).trans hHeld.2.1, ((C4.below (n := w.heap.size + 1) (by omega)).cell (p := ⟨w.heap.size, 4, none⟩) (by dsimp only; omega)).trans hHeld.2.2.1, ab_chg hHeld.2.2.2 C4 (by omega)⟩ (fun hHeld => ?_)
      clear hK K
      refine wpAnyH_done (by kernel_rfl) ?_ _
      go_frame
      go_wp2_with fail
      go_meet
      case rel => exact ⟨_, rfl, by omega, hX4, hR1'.keep hHeld.2.2.2, hHeld.2.2.1, hw1.trans (hHeld.2.2.2.mono (by omega))⟩
  case rest =>
    obtain ⟨X, rfl, hX, hB, hR, hc4, hw⟩ := hcut
    have hbl : Lib.bitLen v.natAbs ≤ 64 := floorBits.bl_bd v h0 h1
    have HBt := fun W => floorBits.bits_any v W h0 h1
    have HO : Hid (oneF s q t v = cup (oneH s q t v) (9 + Lib.bitLen v.natAbs) 1) := rfl
    generalize Lib.bitLen v.natAbs = bl at *
    have hbi : (bl : Int) < 65 := by omega
    have hcx := hB.at (CA_at64 _ (9 + bl) (by omega) (by omega))
    have hfx := hB.frozen (9 + bl)
    go_upto_region 3 with (go_at_call 63; refine (HBt _).mono ?_; rintro e W5 ⟨rfl, rfl⟩)
    have hB5 := hB.setN (9 + bl) 1 .i64 (by omega) (by unfold ck; rw [if_neg (by omega)])
    have C5 := chg_set W5 X (9 + bl) (.int .i64 1)
    have hR5 := hR.chg C5 (by omega)
    have hw5 := ab_chg hw C5 (by omega)
    clear C5 hB hR hw hcx hfx hc4
    generalize W5.setCell ⟨X, 9 + bl, none⟩ (.int .i64 1) = W6 at hB5 hR5 hw5 ⊢
    rw [← HO.out] at hB5
    go_wp2_with (first
      | (refine ld_cell rfl rfl hB5 rfl ?_)
      | (refine st_cell rfl rfl hR5 rfl rfl ?_; intro W9 hR9 C9))
    exact bodyPost_ret (results_cell_row rfl _ _ _ 54 _ (0, 0) _ rfl hR9 Try.underlying54 rfl (info_cell _)) rfl ⟨rfl, ab_chg hw5 C9 (by omega)⟩
end Go.Proofs.Ytfnageillhpjpaa
namespace Go.Proofs.Ytfnageillhpjpaa
set_option maxRecDepth 100000
open Go.RowKit Go.Shelf
set_option linter.unusedVariables false

theorem slice2 (a b : Nat → Int) (w : World) : (Instr.buildSlice 117 2 #[(0, .agg (CA a)), (1, .agg (CA b))]).run Try.prog w = .ok (.slice (some ⟨w.heap.size, 0, none⟩) 2 2) (w.alloc (.cells (CA a ++ CA b) 54)) := by kernel_rfl
theorem bsW {o : Oper} {a : Act} {w : World} {K : Act → World → Prop} {Q : Exit → Act → World → Prop} (d : Option Tmp) (hd : o.dst = d) {parts : Array (Nat × Operand)} (ho : o.op = .buildSlice 117 2 parts) (x y : Nat → Int)
    (hl : parts.map (fun (i, x) => (i, a.eval x)) = #[(0, .agg (CA x)), (1, .agg (CA y))])
    (h : ∀ W', Blk W' w.heap.size (CA x ++ CA y) 54 → Below w.heap.size w W' → K (a.put d (.slice (some ⟨w.heap.size, 0, none⟩) 2 2)) W') : o.wp Try.prog a w K Q := by
  subst hd
  unfold Oper.wp execOp
  simp only [ho, Sem.run_bind, hl, slice2, Result.andThen_ok]
  exact h _ (Blk.new _ _ _) ((Below.refl _ _).alloc (Nat.le_refl _) _)
theorem crow2 {W : World} {g : Nat} {x y : Nat → Int} {t : TypeId} (h : Blk W g (CA x ++ CA y) t) : CRow W g 0 [x, y] := by
  intro j c hc i v hv
  rw [h.cell]
  match j with
  | 0 =>
    simp at hc; subst hc
    have hi : i < 74 := by have := (List.getElem?_eq_some_iff.1 hv).1; simpa [CA_size] using this
    rw [Nat.zero_mul, Nat.zero_add, Array.getElem?_append_left (by rw [CA_size]; exact hi)]; simpa using hv
  | 1 =>
    simp at hc; subst hc
    have hi : i < 74 := by have := (List.getElem?_eq_some_iff.1 hv).1; simpa [CA_size] using this
    rw [Nat.one_mul, Nat.zero_add, Array.getElem?_append_right (by rw [CA_size]; omega), CA_size, Nat.add_sub_cancel_left]; simpa using hv
  | n + 2 => simp at hc
theorem wf_one (s q t v : Int) (hs : -9223372036854775808 ≤ s ∧ s ≤ 9223372036854775807) (hq : -9223372036854775808 ≤ q ∧ q ≤ 9223372036854775807) (ht : -9223372036854775808 ≤ t ∧ t ≤ 9223372036854775807) (hv : -9223372036854775808 ≤ v ∧ v ≤ 9223372036854775807) : Wf (oneF s q t v) := by
  have hh := wh_bd v
  have hl := wl_bd v
  refine ⟨?_, fun i hi h2 => ?_⟩
  · have : oneF s q t v 2 = wl v := by unfold oneF; rw [cup_ne _ _ _ _ (by omega)]; rfl
    rw [this]; exact hl
  · unfold oneF cup oneH
    repeat' split
    all_goals omega

end Go.Proofs.Ytfnageillhpjpaa
