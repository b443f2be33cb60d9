/-
  spring: the chapter's example: estuarylaw15.alive.
-/
import Derived.Test.YthmolbcnbcajdaaGreatPk52
namespace Go.Proofs.YthmolbcnbcajdaaGreat
open Go.RowKit
set_option linter.unusedVariables false
set_option maxRecDepth 100000

abbrev a15 : Op5 := ⟨1, 1, 5, 1, 7⟩
abbrev s15 : Sm := newS [10] 1 4
abbrev l15 : List Nat := frm (opB a15)
theorem a15_good : goodF [10] 1 4 = true := by decide +kernel
theorem a15_s : sampN s15 5 = 0 ∧ sampO s15 5 1 7 = a15 := ⟨by decide +kernel, by kernel_rfl⟩
theorem a15_p : putN s15 a15 = 0 := by decide +kernel
theorem a15_f : Fit5 a15 := by constructor <;> (unfold J64; dsimp only; omega)
theorem a15_l : (opB a15).length ≤ 1000 := by decide +kernel
theorem a15_x : s15.nx < 9223372036854775807 ∧ s15.ho.length < 100000 := by decide +kernel
theorem a15_t : frms ([a15].map opB) = ([] : List Nat) ++ frm (opB a15) := by kernel_rfl
theorem a15_k : (([] : List Nat) ++ frm (opB a15)).take (([] : List Nat).length + (8 + (opB a15).length)) = ([] : List Nat) ++ frm (opB a15) := by kernel_rfl
theorem a15_h : (putS s15 a15).ho = [a15] := by kernel_rfl
theorem a15_n : ¬ (([] : List Int).length / 2 : Nat) = lanS (putS s15 a15) := by decide +kernel
theorem a15_r : repL (putS s15 a15) 1 4 = [a15] := by kernel_rfl
theorem a15_g : GoodN ⟨6, 5, 2, [1], [], []⟩ := ⟨by simp, by simp, by unfold FitK; simp, fun o ho => by simp at ho⟩
set_option maxHeartbeats 4000000 in
theorem alive15_any (w : World) : Calls Tryz.prog 4 #[] w fun e w' => e = .returned (.bool true) ∧ Below w.heap.size w w' := by
  have E1 := spn0
  go_enter Tryz.func4, Tryz.ntmps4
  go_wp2_with fail
  refine (new_any _).mono ?_
  rintro e W1 ⟨rfl, h1, b1⟩
  go_wp2_with (refine bs_own rfl rfl [10] (by simp only [List.map_toArray, List.map_cons, List.map_nil]; rfl) (isl1 _ _) rfl (by decide) ?_; intro W2 hN2 b2 z2; clear z2; go_frame)
  have h2 := h1.keep b2
  refine (spopen_ops _ _ _ [] 0 0 2 4 _ [10] 1 4 _ h2 (by omega) (by omega) (by omega) (by omega) (by omega) (own_is hN2) (by decide) a15_good (fun o ho => by cases ho) (fun k o ho => by cases ho) (by decide)).mono ?_
  rintro e W3 ⟨d, pb, sb, v3, vr, vh, vc, rfl, hg3, hd3, hp3, m3⟩
  have hb3 : Below w.heap.size w W3 := (ab_trans b1 b2).trans (h2.below m3)
  clear h1 h2 b1 b2 hN2 m3
  have hg3 : Sg W3 w.heap.size w.heap.size v3 d pb sb vr vh vc (up [] 0 0) 0 (spN []) 2 4 s15 := hg3
  have hem := spemit_up _ _ _ d pb sb vr vh vc [] 0 0 0 (spN []) 2 4 s15 5 1 7 _ hg3 (by omega) (by omega) (by decide +kernel) a15_s.1 (by rw [a15_s.2]; exact a15_f) (by rw [a15_s.2]; exact a15_p) a15_x.1 a15_x.2 (by rw [a15_s.2]; have := a15_l; simp only [List.length_nil]; omega)
  rw [a15_s.2] at hem
  rw [show opV a15 = .agg #[.int .i64 1, .int .i64 1, .int .i64 5, .int .i64 1, .int .i64 7] from rfl] at hem
  clear hd3 hp3
  go_wp2_with (first
    | (go_at_call 5; refine hem.mono ?_; rintro e W4 ⟨rfl, v4, vh4, hg4, b4, f4, n4⟩; obtain ⟨W5, hE5, hX5, b5⟩ := blk1 W4 #[.int .i64 1, .int .i64 1, .int .i64 5, .int .i64 1, .int .i64 7] 30; clear hem hg3)
    | (refine bs_own rfl rfl [1] (by simp only [List.map_toArray, List.map_cons, List.map_nil]; rfl) (isl1 _ _) rfl (by decide) ?_; intro W6 hN6 b6 z6; clear z6 hE5; go_frame))
  have hg6 := (hg4.keep b5).keep b6
  have hX6 := hX5.keep b6
  have hb6 : Below w.heap.size w W6 := ab_trans (ab_trans (hb3.trans b4) b5) b6
  clear hg4 hX5 hb3 b4 f4 n4 b5 b6
  have hh := sphandle_new 5 1 [] [] [] _ (.slice none 0 0) (.slice none 0 0) W6 hg6.sp hg6.st hb6.size (own_is hN6) (SR.nil _ _ _) (SR.nil _ _ _) a15_g (by decide) a15_n
  rw [a15_r] at hh
  refine hh.mono ?_
  rintro e W7 ⟨g, vn, vo, rfl, hB7, -, hE7, hnw, b7⟩
  clear hh
  have hg7 := hg6.keep b7
  have hX7 := hX6.keep b7
  have hb7 := ab_trans hb6 b7
  have hsz : ∀ r, vo.ownBlock = some r → W6.heap.size ≤ r := hnw
  have hT6 := hg6.tp
  have hT7 := hg7.tp
  have hou : OutB vo (fun k => k = w.heap.size ∨ v4.ownBlock = some k) := fun a n c e hk => by
    subst e
    have h9 := hsz a.block rfl
    rcases hk with hk | hk
    · have := hT6.blk.lt; omega
    · have := (World.ownsRow.lt hT6.own _ hk).2; omega
  clear hg6 hX6 hb6 hnw hsz hN6 b7 hT6
  go_wp2_with fail
  refine (crash_up _ _ _ _ 0 (([] : List Nat).length + (8 + (opB a15).length)) _ hT7 (by omega) (by show _ + min 0 _ = _; rw [Nat.zero_min]; rfl)).mono ?_
  rintro e W8 ⟨rfl, v8, hT8, m8⟩
  have hT8 : Tp W8 w.heap.size w.heap.size v8 (up ((([] : List Nat) ++ frm (opB a15)).take (([] : List Nat).length + (8 + (opB a15).length))) (([] : List Nat).length + (8 + (opB a15).length)) 2) := hT8
  rw [a15_k, ← a15_t] at hT8
  go_wp2_with (refine bs_own rfl rfl [10] (by simp only [List.map_toArray, List.map_cons, List.map_nil]; rfl) (isl1 _ _) rfl (by decide) ?_; intro W9 hN9 b9 z9; clear z9; go_frame)
  have hT9 := hT8.keep b9
  refine (spopen_ops _ _ _ [a15] _ 2 2 4 _ [10] 1 4 _ hT9 (by omega) (by omega) (by omega) (by omega) (by omega) (own_is hN9) (by decide) a15_good (fun o ho => by rw [List.mem_singleton.1 ho]; exact a15_f) (fun k o ho => by
    cases k with
    | zero => cases ho; exact ⟨a15_p, a15_x.1, a15_x.2⟩
    | succ k => cases ho) (by decide)).mono ?_
  rintro e W10 ⟨d2, pb2, sb2, v10, vr2, vh2, vc2, rfl, hg10, -, -, m10⟩
  have m := (m8.trans (mv_below v8 b9)).trans m10
  have hX10 := hX7.mv hT7 m (by decide) (by decide)
  have hB10 := hB7.mv hT7 m (by decide) (by decide)
  have hE10 : ER E5 W10 vo [a15] := hE7.frm (X := fun k => k = w.heap.size ∨ v4.ownBlock = some k) ⟨m.os, m.tape, m.output, m.size, fun k hk hx => m.other k hk (fun e => hx (.inl e)) (fun e => hx (.inr e))⟩ hou
  have hb10 : Below w.heap.size w W10 := hb7.trans (hT7.below m)
  clear hou hE7 hB7 hX7 hT7 hT8 hT9 m8 b9 m10 hN9 hg7 hb7 m
  clear hT8 hg3
  obtain ⟨q, cap, gg, off, rfl, hcc, hcm, hp, hr⟩ := hE10.at
  obtain ⟨rfl, hgg⟩ := hp (by decide)
  have y0 : W10.cell? ⟨W4.heap.size, 0, none⟩ = some (.int .i64 1) := hX10.at rfl
  have y1 : W10.cell? ⟨W4.heap.size, 1, none⟩ = some (.int .i64 1) := hX10.at rfl
  have y2 : W10.cell? ⟨W4.heap.size, 2, none⟩ = some (.int .i64 5) := hX10.at rfl
  have y3 : W10.cell? ⟨W4.heap.size, 3, none⟩ = some (.int .i64 1) := hX10.at rfl
  have y4 : W10.cell? ⟨W4.heap.size, 4, none⟩ = some (.int .i64 7) := hX10.at rfl
  have n2 : W10.cell? ⟨g, 2, none⟩ = some (.int .i64 5) := hB10.at rfl
  have n4 : W10.cell? ⟨g, 4, none⟩ = some (.slice (some ⟨gg, off, none⟩) 1 cap) := hB10.at rfl
  have z0 : W10.cell? ⟨gg, off, none⟩ = some (.int .i64 1) := hr 0 a15 rfl 0 _ rfl
  have z1 : W10.cell? ⟨gg, off + 1, none⟩ = some (.int .i64 1) := hr 0 a15 rfl 1 _ rfl
  have z2 : W10.cell? ⟨gg, off + 2, none⟩ = some (.int .i64 5) := hr 0 a15 rfl 2 _ rfl
  have z3 : W10.cell? ⟨gg, off + 3, none⟩ = some (.int .i64 1) := hr 0 a15 rfl 3 _ rfl
  have z4 : W10.cell? ⟨gg, off + 4, none⟩ = some (.int .i64 7) := hr 0 a15 rfl 4 _ rfl
  clear hr hp hE10 hB10 hcc
  have hg10 : Sg W10 w.heap.size w.heap.size v10 d2 pb2 sb2 vr2 vh2 vc2 (up (frms (List.map opB [a15])) ([].length + (8 + (opB a15).length)) 2) [a15].length (spN (List.map opB [a15])) 2 4 (putS s15 a15) := hg10
  go_upto_region 9 with fail
  go_quiet (fail)
  clear y0 y1 y2 y3 y4 z0 z1 z2 z3 z4 n2 n4
  go_wp2_with fail
  have hdr : Below W10.heap.size W10 (W10.drewN nq) := ab_drewN (Below.refl _ _) nq
  generalize W10.drewN nq = W11 at *
  have hg11 := hg10.keep hdr
  have hX11 := hX10.keep hdr
  have hb11 := ab_trans hb10 hdr
  clear hg10 hX10 hb10 hdr
  refine (spstream_any _ hg11.sp hg11.st hb11.size).mono ?_
  rintro e W12 ⟨b12, vh12, vc12, rfl, hS12, -, hb12⟩
  go_wp2_with fail
  refine (sheld_any _ hS12).mono ?_
  rintro e W13 ⟨v13, rfl, hO13, hb13⟩
  rw [a15_h] at hO13
  obtain ⟨q, cap, gg, off, rfl, hcc, hcm, hp, hr⟩ := hO13.er.at
  obtain ⟨rfl, hgg⟩ := hp (by decide)
  have hb23 := ab_trans hb12 hb13
  have hX13 := hX11.keep hb23
  have hfin := ab_trans hb11 hb23
  have y0 : W13.cell? ⟨W4.heap.size, 0, none⟩ = some (.int .i64 1) := hX13.at rfl
  have y1 : W13.cell? ⟨W4.heap.size, 1, none⟩ = some (.int .i64 1) := hX13.at rfl
  have y2 : W13.cell? ⟨W4.heap.size, 2, none⟩ = some (.int .i64 5) := hX13.at rfl
  have y3 : W13.cell? ⟨W4.heap.size, 3, none⟩ = some (.int .i64 1) := hX13.at rfl
  have y4 : W13.cell? ⟨W4.heap.size, 4, none⟩ = some (.int .i64 7) := hX13.at rfl
  have z0 : W13.cell? ⟨gg, off, none⟩ = some (.int .i64 1) := hr 0 a15 rfl 0 _ rfl
  have z1 : W13.cell? ⟨gg, off + 1, none⟩ = some (.int .i64 1) := hr 0 a15 rfl 1 _ rfl
  have z2 : W13.cell? ⟨gg, off + 2, none⟩ = some (.int .i64 5) := hr 0 a15 rfl 2 _ rfl
  have z3 : W13.cell? ⟨gg, off + 3, none⟩ = some (.int .i64 1) := hr 0 a15 rfl 3 _ rfl
  have z4 : W13.cell? ⟨gg, off + 4, none⟩ = some (.int .i64 7) := hr 0 a15 rfl 4 _ rfl
  rw [show [a15].length = 1 from rfl]
  clear hr hp hO13 hcc hg11 hX11 hb11 hS12 hb12 hb13 hb23 hX13
  go_wp2_with fail
  first
    | (go_quiet (fail); go_wp2_with fail; go_ret; exact ⟨rfl, ab_drewN hfin _⟩)
    | (go_ret; exact ⟨rfl, hfin⟩)
end Go.Proofs.YthmolbcnbcajdaaGreat
