/-
  slices.Insert wherever an operation belongs; insert.
-/
import Derived.Test.YteffpgodookebaaGreatPk44
namespace Go.Proofs.YteffpgodookebaaGreat
open Go.RowKit
set_option linter.unusedVariables false
set_option maxRecDepth 100000

theorem sinsert_gen (l : List Op5) (o : Op5) (v : Value) (gp B i : Nat) (w : World) (hO : EO E5 49 w B v l) (hP : Blk w gp (opA o) 49) (hF : FndP l o.s i) (hl : l.length ≤ 100000) (hB : B ≤ w.heap.size) (hne : v.ownBlock ≠ some gp) :
    Calls Tryz.prog 156 #[v, .int .i64 (i : Int), .slice (some ⟨gp, 0, none⟩) 1 1] w fun e w' => ∃ v', e = .returned v' ∧ EO E5 49 w' B v' (insO l o) ∧ Frm (fun k => v.ownBlock = some k) w w' ∧ ∀ r, v'.ownBlock = some r → v.ownBlock = some r ∨ w.heap.size ≤ r := by
  have hI : insO l o = l.take i ++ o :: l.drop i := by
    unfold insO
    rw [(fnd_cut hF).1, (fnd_cut hF).2]
  rw [hI]
  have hle := hF.le
  by_cases c : i = l.length
  · subst c
    rw [List.take_of_length_le (Nat.le_refl _), List.drop_of_length_le (Nat.le_refl _)]
    exact sinsert_end l o v gp B w hO hP hl hB
  · obtain ⟨g, cap, rfl⟩ := hO.at0 (by omega)
    by_cases hc : l.length + 1 ≤ cap
    · refine (sinsert_room l o g gp cap i B w hO hP (fun e => hne (by rw [e]; rfl)) hl (by omega) hc).mono ?_
      rintro e w' ⟨rfl, h1, h2⟩
      exact ⟨_, rfl, h1, h2.mono (fun k hk => by rw [hk]; rfl), fun r hr => .inl hr⟩
    · refine (sinsert_grow l o g gp cap i B w hO hP hl (by omega) (by omega) hB).mono ?_
      rintro e w' ⟨c2, rfl, h1, h2⟩
      refine ⟨_, rfl, h1, frm_below h2, fun r hr => .inr ?_⟩
      have : w.heap.size = r := by simpa [Value.ownBlock] using hr
      omega
set_option maxHeartbeats 4000000 in
theorem sinsert_mid (l : List Op5) (o : Op5) (v : Value) (B : Nat) (w : World) (hO : EO E5 49 w B v l) (hl : l.length ≤ 100000) (hs : l.Pairwise fun a b => a.s < b.s) (hB : B ≤ w.heap.size) :
    Calls Tryz.prog 138 #[v, opV o] w fun e w' => ∃ v', e = .returned v' ∧ EO E5 49 w' B v' (insO l o) ∧ Frm (fun k => v.ownBlock = some k) w w' ∧ ∀ r, v'.ownBlock = some r → v.ownBlock = some r ∨ w.heap.size ≤ r := by
  obtain ⟨A, hE, hX, hw⟩ := blk1 w (opA o) 49
  have hl6 : l.length ≤ 1000000 := by omega
  have hO := hO.keep hw
  have hBA := Nat.le_trans hB hw.size
  have r0 : ∀ V, Below A.heap.size A V → V.cell? ⟨w.heap.size, 0, none⟩ = some (.int .i64 o.s) := fun V h => (hX.keep h).at rfl
  have r1 : ∀ V, Below A.heap.size A V → V.cell? ⟨w.heap.size, 1, none⟩ = some (.int .i64 o.k) := fun V h => (hX.keep h).at rfl
  have r2 : ∀ V, Below A.heap.size A V → V.cell? ⟨w.heap.size, 2, none⟩ = some (.int .i64 o.t) := fun V h => (hX.keep h).at rfl
  have r3 : ∀ V, Below A.heap.size A V → V.cell? ⟨w.heap.size, 3, none⟩ = some (.int .i64 o.y) := fun V h => (hX.keep h).at rfl
  have r4 : ∀ V, Below A.heap.size A V → V.cell? ⟨w.heap.size, 4, none⟩ = some (.int .i64 o.v) := fun V h => (hX.keep h).at rfl
  unfold opA at hE
  unfold opV opA
  go_enter Tryz.func138, Tryz.ntmps138
  go_upto_region 1 with fail
  clear hE
  refine region_L 7 (S := fun w' => Below A.heap.size A w') (by kernel_rfl) ((Below.refl _ _).drew) (fun hHeld => ?_)
  refine takeP (i := 0) (some 5) (by rfl) rfl rfl (by kernel_rfl) (by kernel_rfl) (by kernel_rfl) (fun _ _ _ h => h) (by rfl) (fun w => by go_simp; try rfl) hHeld ?_
  go_frame
  refine takeP (i := 1) (some 6) (by rfl) rfl rfl (by kernel_rfl) (by kernel_rfl) (by kernel_rfl) (fun _ _ _ h => h) (by rfl) (fun w => by go_simp; try rfl) hHeld ?_
  go_frame
  refine takeP (i := 2) (some 7) (by rfl) rfl rfl (by kernel_rfl) (by kernel_rfl) (by kernel_rfl) (fun _ _ _ h => h) (by rfl) (fun w => by go_simp; try rfl) hHeld ?_
  go_frame
  refine takeL (i := 3) [4, 7] (some 8) (by rfl) rfl rfl (by kernel_rfl) (by kernel_rfl) (by kernel_rfl) (by kernel_rfl) (fun _ _ _ h => h) (by rfl) (fun w hSw => by (try dsimp only at hSw); (have y0 := r0 _ hSw; go_simp; try rfl)) hHeld ?_
  go_frame
  refine takeL (i := 5) [6, 7] (some 10) (by rfl) rfl rfl (by kernel_rfl) (by kernel_rfl) (by kernel_rfl) (by kernel_rfl) (fun _ _ _ h => h) (by rfl) (fun w hSw => by (try dsimp only at hSw); (have y0 := r0 _ hSw; have y1 := r1 _ hSw; have y2 := r2 _ hSw; have y3 := r3 _ hSw; have y4 := r4 _ hSw; go_simp; try rfl)) hHeld ?_
  go_frame
  refine anyL_ready (rs := [4, 6]) (by kernel_rfl) (by simp) (AllL.cons rfl (fun K hK => ?_) (AllL.cons rfl (fun K hK => ?_) AllL.nil))
  · go_simp
    refine (sfind_any _ l o.s _ (hO.er.keep hHeld) hl6 hs).mono ?_
    rintro e Wn ⟨i, rfl, hF, bn⟩
    show K _ _
    refine hK.out _ _ (ab_trans hHeld bn) (fun hHeld => ?_)
    clear hK K bn
    try go_frame
    refine anyL_ready (rs := [6]) (by kernel_rfl) (by simp) (AllL.cons rfl (fun K hK => ?_) AllL.nil)
    rw [if_pos (by rfl)]
    refine bopW (some 11) rfl rfl o (by simp only [List.map_toArray, List.map_cons, List.map_nil]; rfl) fun W5 hP bn => ?_
    have hG : A.heap.size ≤ _ := hHeld.size
    refine hK.out _ _ (ab_trans hHeld bn) (fun hHeld => ?_)
    clear hK K bn
    try go_frame
    refine anyL_ready (rs := [7]) (by kernel_rfl) (by simp) (AllL.last rfl (by kernel_rfl) (fun K hK => ?_))
    go_simp
    refine (sinsert_gen l o _ _ _ i _ (hO.keep hHeld) hP hF hl (Nat.le_trans hBA hHeld.size) (fun e => by have h9 := (World.ownsRow.lt hO _ e).2; omega)).mono ?_
    rintro e W6 ⟨v6, rfl, hO6, hf6, hn6⟩
    show K _ _
    refine hK.out _ _ ?_
    clear hK K
    try go_frame
    refine anyL_ready (rs := [8]) (by kernel_rfl) (by simp) (AllL.free rfl (by kernel_rfl) (fun K hK => ?_))
    go_simp
    refine hK.out _ _ ?_
    clear hK K
    refine anyL_done (by kernel_rfl) ?_
    go_wp2_with fail
    go_ret
    have hAf : Frm (fun k => v.ownBlock = some k) w _ := frm_below (ab_trans hw hHeld)
    exact ⟨_, rfl, hO6, hAf.trans hf6, fun r hr => (hn6 r hr).imp_right (fun h => Nat.le_trans hAf.size h)⟩
  · rw [if_pos (by rfl)]
    refine bopW (some 11) rfl rfl o (by simp only [List.map_toArray, List.map_cons, List.map_nil]; rfl) fun W5 hP bn => ?_
    have hG : A.heap.size ≤ _ := hHeld.size
    refine hK.out _ _ (ab_trans hHeld bn) (fun hHeld => ?_)
    clear hK K bn
    try go_frame
    refine anyL_ready (rs := [4]) (by kernel_rfl) (by simp) (AllL.cons rfl (fun K hK => ?_) AllL.nil)
    go_simp
    refine (sfind_any _ l o.s _ (hO.er.keep hHeld) hl6 hs).mono ?_
    rintro e Wn ⟨i, rfl, hF, bn⟩
    have hP := hP.keep bn
    show K _ _
    refine hK.out _ _ (ab_trans hHeld bn) (fun hHeld => ?_)
    clear hK K bn
    try go_frame
    refine anyL_ready (rs := [7]) (by kernel_rfl) (by simp) (AllL.last rfl (by kernel_rfl) (fun K hK => ?_))
    go_simp
    refine (sinsert_gen l o _ _ _ i _ (hO.keep hHeld) hP hF hl (Nat.le_trans hBA hHeld.size) (fun e => by have h9 := (World.ownsRow.lt hO _ e).2; omega)).mono ?_
    rintro e W6 ⟨v6, rfl, hO6, hf6, hn6⟩
    show K _ _
    refine hK.out _ _ ?_
    clear hK K
    try go_frame
    refine anyL_ready (rs := [8]) (by kernel_rfl) (by simp) (AllL.free rfl (by kernel_rfl) (fun K hK => ?_))
    go_simp
    refine hK.out _ _ ?_
    clear hK K
    refine anyL_done (by kernel_rfl) ?_
    go_wp2_with fail
    go_ret
    have hAf : Frm (fun k => v.ownBlock = some k) w _ := frm_below (ab_trans hw hHeld)
    exact ⟨_, rfl, hO6, hAf.trans hf6, fun r hr => (hn6 r hr).imp_right (fun h => Nat.le_trans hAf.size h)⟩
theorem insC_any {l : List Op5} {o : Op5} (hl : l.length ≤ 100000) (hs : l.Pairwise fun a b => a.s < b.s) : InsC l o := fun v B w hO hB => sinsert_mid l o v B w hO hl hs hB
end Go.Proofs.YteffpgodookebaaGreat
