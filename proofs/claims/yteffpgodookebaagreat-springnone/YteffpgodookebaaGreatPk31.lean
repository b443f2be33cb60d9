/-
  stream's Clone.
-/
import Derived.Test.YteffpgodookebaaGreatPk27
import Derived.Test.YteffpgodookebaaGreatPk23
namespace Go.Proofs.YteffpgodookebaaGreat
open Go.RowKit
set_option linter.unusedVariables false
set_option maxRecDepth 100000

set_option maxHeartbeats 2000000 in
theorem sclone_any {B b : Nat} {vr vh vc : Value} {S : Sm} (w : World) (h : Sq w B b vr vh vc S) (hB : B ≤ w.heap.size) :
    Calls Tryz.prog 68 #[sptr b] w fun e w' => ∃ b' vh' vc', e = .returned (sptr b') ∧ Sq w' B b' vr vh' vc' S ∧ (∀ k, bkS b' vh' vc' k → w.heap.size ≤ k) ∧ Below w.heap.size w w' := by
  have hr := h.cells
  obtain ⟨qr, cr, er⟩ := h.re.is.form
  subst er
  go_enter Tryz.func68, Tryz.ntmps68
  go_upto_region 3 with fail
  refine wp_region_held_drew (S := fun w' => Below w.heap.size w w') (by kernel_rfl) (ab_drew (Below.refl _ _)) (fun hHeld => ?_)
  generalize w.drew = V at *
  refine takeH (i := 0) (some 5) rfl rfl (by kernel_rfl) (by kernel_rfl) (by kernel_rfl) (fun _ _ _ h => h) (by rfl) (fun w hSw => by (try dsimp only at hSw); go_simp; try rfl) hHeld ?_
  go_frame
  refine takeH (i := 1) (some 6) rfl rfl (by kernel_rfl) (by kernel_rfl) (by kernel_rfl) (fun _ _ _ h => h) (by rfl) (fun w hSw => by (try dsimp only at hSw); go_simp; try rfl) hHeld ?_
  go_frame
  refine takeH (i := 2) (some 7) rfl rfl (by kernel_rfl) (by kernel_rfl) (by kernel_rfl) (fun _ _ _ h => h) (by rfl) (fun w hSw => by (try dsimp only at hSw); go_simp; try rfl) hHeld ?_
  go_frame
  refine takeH (i := 4) (some 9) rfl rfl (by kernel_rfl) (by kernel_rfl) (by kernel_rfl) (fun _ _ _ h => h) (by rfl) (fun w hSw => by (try dsimp only at hSw); go_simp; try rfl) hHeld ?_
  go_frame
  refine takeH (i := 5) (some 10) rfl rfl (by kernel_rfl) (by kernel_rfl) (by kernel_rfl) (fun _ _ _ h => h) (by rfl) (fun w hSw => by (try dsimp only at hSw); go_simp; try rfl) hHeld ?_
  go_frame
  refine takeH (i := 6) (some 11) rfl rfl (by kernel_rfl) (by kernel_rfl) (by kernel_rfl) (fun _ _ _ h => h) (by rfl) (fun w hSw => by (try dsimp only at hSw); go_simp; try rfl) hHeld ?_
  go_frame
  refine takeH (i := 8) (some 13) rfl rfl (by kernel_rfl) (by kernel_rfl) (by kernel_rfl) (fun _ _ _ h => h) (by rfl) (fun w hSw => by (try dsimp only at hSw); go_simp; try rfl) hHeld ?_
  go_frame
  refine takeH (i := 9) (some 14) rfl rfl (by kernel_rfl) (by kernel_rfl) (by kernel_rfl) (fun _ _ _ h => h) (by rfl) (fun w hSw => by (try dsimp only at hSw); go_simp; try rfl) hHeld ?_
  go_frame
  refine takeH (i := 10) (some 15) rfl rfl (by kernel_rfl) (by kernel_rfl) (by kernel_rfl) (fun _ _ _ h => h) (by rfl) (fun w hSw => by (try dsimp only at hSw); go_simp; try rfl) hHeld ?_
  go_frame
  refine takeH (i := 12) (some 17) rfl rfl (by kernel_rfl) (by kernel_rfl) (by kernel_rfl) (fun _ _ _ h => h) (by rfl) (fun w hSw => by (try dsimp only at hSw); go_simp; try rfl) hHeld ?_
  go_frame
  refine takeH (i := 14) (some 19) rfl rfl (by kernel_rfl) (by kernel_rfl) (by kernel_rfl) (fun _ _ _ h => h) (by rfl) (fun w hSw => by (try dsimp only at hSw); go_simp; try rfl) hHeld ?_
  go_frame
  refine takeH (i := 3) (some 8) rfl rfl (by kernel_rfl) (by kernel_rfl) (by kernel_rfl) (fun _ _ _ h => h) (by rfl) (fun w hSw => by (try dsimp only at hSw); (obtain ⟨y0, y1, y2, y3, y4, y5, y6, y7, y8, y9, y10⟩ := hr _ hSw; go_simp; try rfl)) hHeld ?_
  go_frame
  refine takeH (i := 7) (some 12) rfl rfl (by kernel_rfl) (by kernel_rfl) (by kernel_rfl) (fun _ _ _ h => h) (by rfl) (fun w hSw => by (try dsimp only at hSw); (obtain ⟨y0, y1, y2, y3, y4, y5, y6, y7, y8, y9, y10⟩ := hr _ hSw; go_simp; try rfl)) hHeld ?_
  go_frame
  refine takeH (i := 11) (some 16) rfl rfl (by kernel_rfl) (by kernel_rfl) (by kernel_rfl) (fun _ _ _ h => h) (by rfl) (fun w hSw => by (try dsimp only at hSw); (obtain ⟨y0, y1, y2, y3, y4, y5, y6, y7, y8, y9, y10⟩ := hr _ hSw; go_simp; try rfl)) hHeld ?_
  go_frame
  clear hr
  refine wpAnyH_ready (rs := [13]) (by kernel_rfl) (by simp) (AllReadyH.cons rfl (fun K hK => ?_) AllReadyH.nil)
  go_simp
  refine (sheld_any V (h.keep hHeld)).mono ?_
  rintro e W1 ⟨v1, rfl, hO1, b1⟩
  obtain ⟨q1, c1, e1⟩ := hO1.form
  subst e1
  show K _ _
  have hg1 := own_less hO1 hHeld.size
  refine hK.out _ _ (ab_trans hHeld b1) (fun hHeld => ?_)
  clear hK K
  try go_frame
  refine wpAnyH_ready (rs := [15]) (by kernel_rfl) (by simp) (AllReadyH.cons rfl (fun K hK => ?_) AllReadyH.nil)
  go_simp
  refine (splaces_any W1 (h.keep hHeld)).mono ?_
  rintro e W2 ⟨v2, rfl, hO2, b2⟩
  obtain ⟨q2, c2, e2⟩ := hO2.form
  subst e2
  show K _ _
  have hg2 := own_less hO2 hHeld.size
  have hg1 := own_keep hg1 b2
  have hW2 := ab_trans hHeld b2
  refine hK.out _ _ hW2 (fun hHeld => ?_)
  clear hK K hO1 hO2 b1 b2
  try go_frame
  refine takeH (i := 16) (some 21) rfl rfl (by kernel_rfl) (by kernel_rfl) (by kernel_rfl) (fun _ _ _ h => h) (by rfl) (fun w hSw => by (try dsimp only at hSw); go_simp; try rfl) hHeld ?_
  go_frame
  refine wpAnyH_ready (rs := [17]) (by kernel_rfl) (by simp) (AllReadyH.cons rfl (fun K hK => ?_) AllReadyH.nil)
  go_simp
  have hbx := ab_alloc (Below.refl W2.heap.size W2) (.cells (stC S (.slice qr S.res.length cr) (.slice q1 S.ho.length c1) (.slice q2 S.ct.length c2)) 152)
  refine hK.out _ _ (ab_trans hHeld hbx) (fun hHeld2 => ?_)
  clear hK K
  try go_frame
  have hHeld := hHeld2
  refine takeH (i := 18) (some 2) rfl rfl (by kernel_rfl) (by kernel_rfl) (by kernel_rfl) (fun _ _ _ h => h) (by rfl) (fun w hSw => by (try dsimp only at hSw); go_simp; try rfl) hHeld ?_
  go_frame
  refine wpAnyH_done (by kernel_rfl) ?_ _
  have hblk := Blk.new W2 (stC S (.slice qr S.res.length cr) (.slice q1 S.ho.length c1) (.slice q2 S.ct.length c2)) 152
  have hHW := hg2
  go_wp2_with fail
  go_ret
  have bW2 : Below w.heap.size w W2 := hW2
  have hH := own_less hg1 hB
  have hC := own_less hg2 hB
  refine ⟨W2.heap.size, _, _, rfl, ⟨hblk, Nat.le_trans hB bW2.size, (h.re.keep bW2).keep hbx, own_keep hH hbx, own_keep hC hbx, h.ok⟩, ?_, ab_trans bW2 hbx⟩
  rintro k (rfl | hk | hk)
  · exact bW2.size
  · exact (World.ownsRow.lt hg1 k hk).1
  · exact (World.ownsRow.lt hg2 k hk).1
end Go.Proofs.YteffpgodookebaaGreat
