/-
  stream.New.
-/
import Derived.Test.YteffpgodookebaaGreatPk29
import Derived.Test.YteffpgodookebaaGreatPk23
namespace Go.Proofs.YteffpgodookebaaGreat
open Go.RowKit
set_option linter.unusedVariables false
set_option maxRecDepth 100000

theorem bpl1 (x y : Int) (w : World) : (Instr.buildSlice 41 1 #[(0, .agg #[.int .i64 x, .int .i64 y])]).run Tryz.prog w = .ok (.slice (some ⟨w.heap.size, 0, none⟩) 1 1) (w.alloc (.cells #[.int .i64 x, .int .i64 y] 89)) := by kernel_rfl
theorem bplW {o : Oper} {a : Act} {w : World} {K : Act → World → Prop} {Q : Exit → Act → World → Prop} (d : Option Tmp) (hd : o.dst = d) {parts : Array (Nat × Operand)} (ho : o.op = .buildSlice 41 1 parts) (x y : Int)
    (hl : parts.map (fun (i, x) => (i, a.eval x)) = #[(0, .agg #[.int .i64 x, .int .i64 y])])
    (h : ∀ W', Blk W' w.heap.size #[.int .i64 x, .int .i64 y] 89 → Below w.heap.size w W' → K (a.put d (.slice (some ⟨w.heap.size, 0, none⟩) 1 1)) W') : o.wp Tryz.prog a w K Q := by
  subst hd
  unfold Oper.wp execOp
  simp only [ho, Sem.run_bind, hl, bpl1, Result.andThen_ok]
  exact h _ (Blk.new _ _ _) ((Below.refl _ _).alloc (Nat.le_refl _) _)
theorem bpl_l {ops : Array Oper} {rest : List Oper} {o : Oper} {a : Act} {w : World} {Q : Exit → Act → World → Prop} (hw : Region.wanted o (yielded ops a.tmps) = true) {parts : Array (Nat × Operand)} (ho : o.op = .buildSlice 41 1 parts) (x y : Int)
    (hl : parts.map (fun (i, x) => (i, a.eval x)) = #[(0, .agg #[.int .i64 x, .int .i64 y])])
    (h : ∀ W', Blk W' w.heap.size #[.int .i64 x, .int .i64 y] 89 → Below w.heap.size w W' → wpList Tryz.prog ops Q rest (a.put o.dst (.slice (some ⟨w.heap.size, 0, none⟩) 1 1)) W') : wpList Tryz.prog ops Q (o :: rest) a w := by
  unfold wpList
  rw [if_pos hw]
  left
  exact bplW o.dst rfl ho x y hl h
/-- Numbers copied into new memory. -/
theorem sown0 (W : World) (base : Nat) : W.ownsRow base 3 1 (.slice none 0 0) 0 (ints []) := World.ownsRow_nil W _ _ _
set_option maxHeartbeats 2000000 in
theorem snew_no (v : Value) (l : List Int) (sh hd : Int) (w : World) (hv : Is w v l) (hl : l.length ≤ 100000) (hg : goodF l sh hd = false) : Calls Tryz.prog 43 #[v, .int .i64 sh, .int .i64 hd] w fun e w' => e = .returned (.tuple #[.pointer none, Err 2]) ∧ Below w.heap.size w w' := by
  go_enter Tryz.func43, Tryz.ntmps43
  go_upto_region 1 with fail
  refine wp_region_lit ?_
  refine valS rfl v rfl ?_
  refine app_i w rfl rfl (l := []) (m := l) rfl (sown0 _ _) rfl hv rfl (by omega) (Below.refl _ _) ?_
  intro v' W1 hown hnil b1 hg1 hat
  have hO : Io W1 w.heap.size v' l := io_of hown
  obtain ⟨q, cap, rfl⟩ := hO.is.form
  have HI : Hid (Is W1 (.slice q l.length cap) l) := hO.is
  clear hown hnil hat hg1 hO
  generalize hn : l.length = n at *
  obtain ⟨A, hE, hB, hw⟩ := blk1 W1 #[.slice q n cap, .int .i64 sh, .int .i64 hd] 150
  have c0 := hB.at (i := 0) rfl
  have c1 := hB.at (i := 1) rfl
  have c2 := hB.at (i := 2) rfl
  have hIA := HI.out.keep hw
  go_wp2_with (go_at_call 84; refine (sgood_any _ l sh hd _ hIA).mono ?_; rintro e W2 ⟨rfl, b2⟩; rw [hg])
  go_ret2
  exact ⟨rfl, ab_trans (ab_trans b1 hw) b2⟩
set_option maxHeartbeats 4000000 in
theorem snew_ok (v : Value) (l : List Int) (sh hd : Int) (w : World) (hv : Is w v l) (hr : ∀ r ∈ l, r ≤ 9223372036854775807) (hg : goodF l sh hd = true) : Calls Tryz.prog 43 #[v, .int .i64 sh, .int .i64 hd] w fun e w' => ∃ b vr vh vc, e = .returned (.tuple #[sptr b, .nilIface]) ∧ Sq w' w.heap.size b vr vh vc (newS l sh hd) ∧ Below w.heap.size w w' := by
  have hOK := oks_new hg hr
  obtain ⟨-, ⟨hn1, hn3⟩, ⟨hs0, hs4⟩, -⟩ := goodF_iff.1 hg
  obtain ⟨c, hc⟩ : ∃ c, c = l.length * sh.toNat := ⟨_, rfl⟩
  have hL : (l.length : Int) * sh = (c : Int) := by rw [hc, Int.natCast_mul, Int.toNat_of_nonneg (by omega)]
  have hlan := hOK.lan
  have hlan2 : lanS (newS l sh hd) = (c : Int) := hL
  rw [hlan2] at hlan
  have hc1 : 1 ≤ c := by omega
  have hc12 : c ≤ 12 := by omega
  have HNS : Hid (newS l sh hd = ⟨l, sh, hd, 1, zOp, [], List.replicate c (-9223372036854775808, -9223372036854775808)⟩) := by show _ = _; rw [hc]; rfl
  have HOK : Hid (Oks (newS l sh hd)) := hOK
  clear hOK hc hlan hlan2
  go_enter Tryz.func43, Tryz.ntmps43
  go_upto_region 1 with fail
  refine wp_region_lit ?_
  refine valS rfl v rfl ?_
  refine app_i w rfl rfl (l := []) (m := l) rfl (sown0 _ _) rfl hv rfl (by omega) (Below.refl _ _) ?_
  intro v' W1 hown hnil b1 hg1 hat
  have hO : Io W1 w.heap.size v' l := io_of hown
  obtain ⟨q, cap, rfl⟩ := hO.is.form
  have HO : Hid (Io W1 w.heap.size (.slice q l.length cap) l) := hO
  clear hown hnil hat hg1 hO hr
  generalize hn : l.length = n at *
  obtain ⟨A, hE, hB, hw⟩ := blk1 W1 #[.slice q n cap, .int .i64 sh, .int .i64 hd] 150
  have hbA := ab_trans b1 hw
  have c0 := hB.at (i := 0) rfl
  have c1 := hB.at (i := 1) rfl
  have c2 := hB.at (i := 2) rfl
  have hIA := HO.out.is.keep hw
  have HOA : Hid (Io A w.heap.size (.slice q n cap) l) := HO.out.keep hw
  go_upto_region 4 with (go_at_call 84; refine (sgood_any _ l sh hd _ hIA).mono ?_; rintro e W2 ⟨rfl, b2⟩; rw [hg])
  have hB2 := hB.keep b2
  have hO2 : Hid (Io W2 w.heap.size (.slice q n cap) l) := HOA.out.keep b2
  have hb2 := ab_trans hbA b2
  have r0 : ∀ V, Below W2.heap.size W2 V → V.cell? ⟨W1.heap.size, 0, none⟩ = some (.slice q n cap) := fun V h => (hB2.keep h).at rfl
  have r1 : ∀ V, Below W2.heap.size W2 V → V.cell? ⟨W1.heap.size, 1, none⟩ = some (.int .i64 sh) := fun V h => (hB2.keep h).at rfl
  have r2 : ∀ V, Below W2.heap.size W2 V → V.cell? ⟨W1.heap.size, 2, none⟩ = some (.int .i64 hd) := fun V h => (hB2.keep h).at rfl
  clear c0 c1 c2 hIA HOA hE hB hbA HO b1 hw b2 A hB2 hv
  refine wp_region_held_drew (S := fun w' => Below W2.heap.size W2 w') (by kernel_rfl) (ab_drew (Below.refl _ _)) (fun hHeld => ?_)
  refine takeH (i := 2) (some 21) rfl rfl (by kernel_rfl) (by kernel_rfl) (by kernel_rfl) (fun _ _ _ h => h) (by rfl) (fun w hSw => by (try dsimp only at hSw); (have y0 := r0 _ hSw; have y1 := r1 _ hSw; have y2 := r2 _ hSw; go_simp; try rfl)) hHeld ?_
  go_frame
  refine wpAnyH_ready (rs := [0]) (by kernel_rfl) (by simp) (AllReadyH.cons rfl (fun K hK => ?_) AllReadyH.nil)
  go_simp
  refine (least_any _).mono ?_
  rintro e Wn ⟨rfl, bn⟩
  show K _ _
  refine hK.out _ _ (ab_trans hHeld bn) (fun hHeld => ?_)
  clear hK K bn
  refine wpAnyH_ready (rs := [1, 3]) (by kernel_rfl) (by simp) (AllReadyH.cons rfl (fun K hK => ?_) (AllReadyH.cons rfl (fun K hK => ?_) AllReadyH.nil))
  · rw [if_pos (by rfl)]
    refine bplW (some 20) rfl rfl (-9223372036854775808) (-9223372036854775808) (by simp only [List.map_toArray, List.map_cons, List.map_nil]; rfl) fun W5 hP bn => ?_
    refine hK.out _ _ (ab_trans hHeld bn) (fun hHeld => ?_)
    clear hK K bn
    go_frame
    refine wpAnyH_ready (rs := [3]) (by kernel_rfl) (by simp) (AllReadyH.cons rfl (fun K hK => ?_) AllReadyH.nil)
    go_simp
    refine (slanes_any q n cap sh hd _ hn3 hs0 hs4).mono ?_
    rintro e Wn ⟨rfl, bn⟩
    rw [hL]
    show K _ _
    have hP := hP.keep bn
    refine hK.out _ _ (ab_trans hHeld bn) (fun hHeld => ?_)
    clear hK K bn
    refine wpAnyH_ready (rs := [4]) (by kernel_rfl) (by simp) (AllReadyH.cons rfl (fun K hK => ?_) AllReadyH.nil)
    go_simp
    refine (srepeat_any ((-9223372036854775808), (-9223372036854775808)) c _ _ hc1 hc12 hP).mono ?_
    rintro e W6 ⟨v6, rfl, hO6, b6⟩
    show K _ _
    have hO7 := own_less hO6 (Nat.le_trans hb2.size hHeld.size)
    refine hK.out _ _ (ab_trans hHeld b6) (fun hHeld => ?_)
    clear hK K b6 hP hO6
    refine takeH (i := 5) (some 9) rfl rfl (by kernel_rfl) (by kernel_rfl) (by kernel_rfl) (fun _ _ _ h => h) (by rfl) (fun w hSw => by (try dsimp only at hSw); go_simp; try rfl) hHeld ?_
    go_frame
    refine wpAnyH_done (by kernel_rfl) ?_ _
    have y0 := r0 _ hHeld
    have y1 := r1 _ hHeld
    have y2 := r2 _ hHeld
    have hOh := hO2.out.keep hHeld
    have hbE := ab_trans hb2 hHeld
    obtain ⟨q6, c6, rfl⟩ := EO.form (E := E2) (l := List.replicate c (-9223372036854775808, -9223372036854775808)) hO7
    have h8 : EO E2 89 W6 w.heap.size (.slice q6 (List.replicate c ((-9223372036854775808 : Int), (-9223372036854775808 : Int))).length c6) (List.replicate c (-9223372036854775808, -9223372036854775808)) := hO7
    rw [List.length_replicate] at h8
    have HO7 : Hid (EO E2 89 W6 w.heap.size (.slice q6 c c6) (List.replicate c (-9223372036854775808, -9223372036854775808))) := h8
    clear h8
    have HOH : Hid (Io W6 w.heap.size (.slice q n cap) l) := hOh
    clear hO7 hOh hHeld r0 r1 r2
    go_wp2_with fail
    go_ret2
    rw [HNS.out] at HOK ⊢
    exact ⟨_, _, _, _, rfl, ⟨Blk.new _ _ _, hbE.size, HOH.out.keep (ab_alloc (Below.refl _ _) _), eo_nil _ _ _ _, HO7.out.keep (ab_alloc (Below.refl _ _) _), HOK.out⟩, ab_alloc hbE _⟩
  · go_simp
    refine (slanes_any q n cap sh hd _ hn3 hs0 hs4).mono ?_
    rintro e Wn ⟨rfl, bn⟩
    rw [hL]
    show K _ _
    refine hK.out _ _ (ab_trans hHeld bn) (fun hHeld => ?_)
    clear hK K bn
    refine wpAnyH_ready (rs := [1]) (by kernel_rfl) (by simp) (AllReadyH.cons rfl (fun K hK => ?_) AllReadyH.nil)
    rw [if_pos (by rfl)]
    refine bplW (some 20) rfl rfl (-9223372036854775808) (-9223372036854775808) (by simp only [List.map_toArray, List.map_cons, List.map_nil]; rfl) fun W5 hP bn => ?_
    refine hK.out _ _ (ab_trans hHeld bn) (fun hHeld => ?_)
    clear hK K bn
    go_frame
    refine wpAnyH_ready (rs := [4]) (by kernel_rfl) (by simp) (AllReadyH.cons rfl (fun K hK => ?_) AllReadyH.nil)
    go_simp
    refine (srepeat_any ((-9223372036854775808), (-9223372036854775808)) c _ _ hc1 hc12 hP).mono ?_
    rintro e W6 ⟨v6, rfl, hO6, b6⟩
    show K _ _
    have hO7 := own_less hO6 (Nat.le_trans hb2.size hHeld.size)
    refine hK.out _ _ (ab_trans hHeld b6) (fun hHeld => ?_)
    clear hK K b6 hP hO6
    refine takeH (i := 5) (some 9) rfl rfl (by kernel_rfl) (by kernel_rfl) (by kernel_rfl) (fun _ _ _ h => h) (by rfl) (fun w hSw => by (try dsimp only at hSw); go_simp; try rfl) hHeld ?_
    go_frame
    refine wpAnyH_done (by kernel_rfl) ?_ _
    have y0 := r0 _ hHeld
    have y1 := r1 _ hHeld
    have y2 := r2 _ hHeld
    have hOh := hO2.out.keep hHeld
    have hbE := ab_trans hb2 hHeld
    obtain ⟨q6, c6, rfl⟩ := EO.form (E := E2) (l := List.replicate c (-9223372036854775808, -9223372036854775808)) hO7
    have h8 : EO E2 89 W6 w.heap.size (.slice q6 (List.replicate c ((-9223372036854775808 : Int), (-9223372036854775808 : Int))).length c6) (List.replicate c (-9223372036854775808, -9223372036854775808)) := hO7
    rw [List.length_replicate] at h8
    have HO7 : Hid (EO E2 89 W6 w.heap.size (.slice q6 c c6) (List.replicate c (-9223372036854775808, -9223372036854775808))) := h8
    clear h8
    have HOH : Hid (Io W6 w.heap.size (.slice q n cap) l) := hOh
    clear hO7 hOh hHeld r0 r1 r2
    go_wp2_with fail
    go_ret2
    rw [HNS.out] at HOK ⊢
    exact ⟨_, _, _, _, rfl, ⟨Blk.new _ _ _, hbE.size, HOH.out.keep (ab_alloc (Below.refl _ _) _), eo_nil _ _ _ _, HO7.out.keep (ab_alloc (Below.refl _ _) _), HOK.out⟩, ab_alloc hbE _⟩
end Go.Proofs.YteffpgodookebaaGreat
