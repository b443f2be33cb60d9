/-
  frame.Unwrap.
-/
import Derived.Test.YtgimkaklocmhkabFrD
namespace Go.Proofs.Ytgimkaklocmhkab
open Go.RowKit
set_option linter.unusedVariables false

set_option maxHeartbeats 400000 in
theorem unwrap_no (v : Value) (l : List Nat) (w : World) (hv : Sl w v l) (hb : Byt l) (hno : insOK l = false) :
    Calls Try.prog 8 #[v] w fun e w' => e = .returned (.tuple #[.slice none 0 0, .slice none 0 0, Err 3]) ∧ Below w.heap.size w w' := by
  go_enter Try.func8, Try.ntmps8
  go_wp2_with (go_at_call 14; refine (inside_no _ l _ hv hb hno).mono ?_; rintro e W2 ⟨rfl, hb2⟩)
  go_ret3
  exact ⟨rfl, hb2⟩
set_option maxHeartbeats 1000000 in
theorem unwrap_ok (v : Value) (l : List Nat) (w : World) (hv : Sl w v l) (hb : Byt l) (hl : l.length ≤ 100000) (hok : insOK l = true) :
    Calls Try.prog 8 #[v] w fun e w' => ∃ v1 v2 W1, e = .returned (.tuple #[v1, v2, .nilIface]) ∧ Below w.heap.size w W1 ∧ Ow W1 w.heap.size v1 (insB l) ∧ Ow w' W1.heap.size v2 (l.drop (8 + (insB l).length)) ∧ Below W1.heap.size W1 w' := by
  obtain ⟨q, cap, g, off, rfl, hc, hm, hp, hg, hr⟩ := hv.open
  clear hp hg hr
  have hile := insB_le hok
  have HIO := fun W (h : Sl W (.slice q l.length cap) l) => inside_ok _ l W h hb hok
  generalize hF : insB l = F at *
  have HD : Hid ((l.drop (8 + F.length)).length ≤ 1000000) := by show _ ≤ _; rw [List.length_drop]; omega
  obtain ⟨q3, e3⟩ := sliced_form q (8 + F.length) l.length cap
  have HS3 : Hid (∀ W, Below w.heap.size w W → Sl W (.slice q3 (l.length - (8 + F.length)) (cap - (8 + F.length))) (l.drop (8 + F.length))) := fun W hW => by
    have := hv.sub hile.1 (Nat.le_refl _) (Nat.le_refl _) hc e3.symm
    rw [List.take_of_length_le (by rw [List.length_drop]; omega)] at this
    exact this.keep hW
  have HFm : Hid (F.length ≤ 1000000) := by show _ ≤ _; omega
  have HHI : Hid (∀ W, Sl W (.slice q l.length cap) l → _) := HIO
  clear hF HIO hok
  go_enter Try.func8, Try.ntmps8
  go_upto_region 4 with (go_at_call 14; refine (HHI.out _ hv).mono ?_; rintro e W2 ⟨q2, cap2, rfl, s2, hb2⟩)
  clear HHI
  generalize hn : l.length = n at *
  generalize hFl : F.length = m at *
  refine wp_region_held_drew (S := fun w' => Below W2.heap.size W2 w') (by kernel_rfl) (ab_drew (Below.refl _ _)) (fun hHeld => ?_)
  refine takeH (i := 0) (some 15) rfl rfl (by kernel_rfl) (by kernel_rfl) (by kernel_rfl) (fun _ _ _ h => h) (by rfl) (fun w hSw => by (try dsimp only at hSw); go_simp; try rfl) hHeld ?_
  go_frame
  refine takeH (i := 2) (some 17) rfl rfl (by kernel_rfl) (by kernel_rfl) (by kernel_rfl) (fun _ _ _ h => h) (by rfl) (fun w hSw => by (try dsimp only at hSw); go_simp; try rfl) hHeld ?_
  go_frame
  refine takeH (i := 3) (some 18) rfl rfl (by kernel_rfl) (by kernel_rfl) (by kernel_rfl) (fun _ _ _ h => h) (by rfl) (fun w hSw => by (try dsimp only at hSw); go_simp; try rfl) hHeld ?_
  go_frame
  refine takeH (i := 4) (some 19) rfl rfl (by kernel_rfl) (by kernel_rfl) (by kernel_rfl) (fun _ _ _ h => h) (by rfl) (fun w hSw => by (try dsimp only at hSw); go_simp; try rfl) hHeld ?_
  go_frame
  refine takeH (i := 5) (some 20) rfl rfl (by kernel_rfl) (by kernel_rfl) (by kernel_rfl) (fun _ _ _ h => h) (by rfl) (fun w hSw => by (try dsimp only at hSw); go_simp; try rfl) hHeld ?_
  go_frame
  refine takeH (i := 6) (some 21) rfl rfl (by kernel_rfl) (by kernel_rfl) (by kernel_rfl) (fun _ _ _ h => h) (by rfl) (fun w hSw => by (try dsimp only at hSw); exact (slb_l_run (i := 8 + m) rfl rfl rfl (by rw [IntWalk.i64_left]; unfold wrap64; omega) hile.1 hc).trans (by rw [e3])) hHeld ?_
  go_frame
  refine wpAnyH_ready (rs := [1]) (by kernel_rfl) (by simp) (AllReadyH.cons rfl (fun K hK => ?_) AllReadyH.nil)
  go_simp
  refine (clone_any _ F _ (s2.keep hHeld) (by rw [hFl]; exact HFm.out)).mono ?_
  rintro e W3 ⟨v3, rfl, hown3, hb3⟩
  show K _ _
  have HO3 := ow_of hown3
  have hb23 := ab_trans hHeld hb3
  have hs23 : W2.heap.size ≤ W2.drew.heap.size := Nat.le_refl _
  refine hK.out _ _ hb23 (fun hHeld => ?_)
  clear hK K hb3 hown3
  refine wpAnyH_ready (rs := [7]) (by kernel_rfl) (by simp) (AllReadyH.cons rfl (fun K hK => ?_) AllReadyH.nil)
  go_simp
  refine (clone_any _ _ _ (HS3.out _ (ab_trans hb2 hb23)) HD.out).mono ?_
  rintro e W4 ⟨v4, rfl, hown4, hb4⟩
  show K _ _
  refine hK.out _ _ (ab_trans hHeld hb4) (fun hHeld => ?_)
  clear hK K
  refine takeH (i := 8) (some 2) rfl rfl (by kernel_rfl) (by kernel_rfl) (by kernel_rfl) (fun _ _ _ h => h) (by rfl) (fun w hSw => by (try dsimp only at hSw); go_simp; try rfl) hHeld ?_
  go_frame
  refine takeH (i := 9) (some 3) rfl rfl (by kernel_rfl) (by kernel_rfl) (by kernel_rfl) (fun _ _ _ h => h) (by rfl) (fun w hSw => by (try dsimp only at hSw); go_simp; try rfl) hHeld ?_
  go_frame
  refine takeH (i := 10) (some 4) rfl rfl (by kernel_rfl) (by kernel_rfl) (by kernel_rfl) (fun _ _ _ h => h) (by rfl) (fun w hSw => by (try dsimp only at hSw); go_simp; try rfl) hHeld ?_
  go_frame
  refine wpAnyH_done (by kernel_rfl) ?_ _
  go_wp2_with fail
  go_ret3
  refine ⟨_, _, W3, rfl, ab_trans hb2 hb23, HO3.less hb2.size, ?_, hb4⟩
  rw [hFl]
  exact ow_of hown4
end Go.Proofs.Ytgimkaklocmhkab
