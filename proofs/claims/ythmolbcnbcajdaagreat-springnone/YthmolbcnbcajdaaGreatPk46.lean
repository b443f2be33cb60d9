/-
  spring: a row that tells an operation is read as it; within; the mark of a base.
-/
import Derived.Test.YthmolbcnbcajdaaGreatPk45
import Derived.Test.YthmolbcnbcajdaaGreatPk15
import Derived.Test.YthmolbcnbcajdaaGreatPk27
namespace Go.Proofs.YthmolbcnbcajdaaGreat
open Go.RowKit
set_option linter.unusedVariables false
set_option maxRecDepth 100000

theorem rdO_some {l : List Nat} {o : Op5} (h : rdO l = some o) : numsR l 6 = some (opL o) := by
  cases hn : numsR l 6 with
  | none => rw [rdO_none hn] at h; cases h
  | some ns =>
    by_cases h6 : ns.length = 6
    · obtain ⟨a, s, k, t, y, z, rfl⟩ := six_of h6
      rw [rdO_six hn] at h
      by_cases ha : a = 1
      · rw [if_pos ha] at h
        cases h
        rw [ha]
        rfl
      · rw [if_neg ha] at h; cases h
    · rw [rdO_short hn h6] at h; cases h
/-- An operation stored into its box, at one operation. -/
theorem st_opW {o : Oper} {a : Act} {w : World} {K : Act → World → Prop} {Q : Exit → Act → World → Prop} (d : Option Tmp) (hd : o.dst = d) {x y : Operand} (ho : o.op = .store 30 x y) {b : Nat} {k0 k1 : Op5} (hB : Blk w b (opA k0) 30) (hx : a.eval x = .pointer (some ⟨b, 0, none⟩)) (hy : a.eval y = opV k1)
    (h : ∀ W', Blk W' b (opA k1) 30 → Chg b w W' → K (a.put d undef) W') : o.wp Tryz.prog a w K Q := by
  obtain ⟨h1, h2⟩ := blk_setCells (opA k1).toList 0 w (opA k0) hB
  subst hd
  exact wp_store_mid 30 x y ho b 0 (opA k1) hx hy (fun j hj => ⟨by rw [hB.cell, Nat.zero_add]; have : j < 5 := hj; rw [Array.getElem?_eq_getElem (by simpa [opA] using this)]; rfl, hB.frozen _⟩) (info_op5 k1) (by simp [opA, Value.oneCell']) (h _ h1 h2)
set_option maxHeartbeats 2000000 in
theorem readOp_yes (v : Value) (l : List Nat) (o : Op5) (w : World) (hv : Sl w v l) (hb : Byt l) (hl : l.length ≤ 100000) (hr : rdO l = some o) :
    Calls Tryz.prog 44 #[v] w fun e w' => e = .returned (.tuple #[opV o, .bool true]) ∧ Below w.heap.size w w' := by
  obtain ⟨A, hE, hB, hw⟩ := blk1 w (opA zOp) 30
  have hN := fnums_any v l 6 A (hv.keep hw) hb hl
  obtain ⟨q, cap, e, -⟩ := id hv
  subst e
  unfold opA zOp at hE
  rw [rdO_some hr] at hN
  clear hr
  unfold opL at hN
  go_enter Tryz.func44, Tryz.ntmps44
  have e2 := spn0
  go_upto_region 4 with (go_at_call 65; refine hN.mono ?_; rintro e W2 ⟨hp, b2⟩; obtain ⟨v2, hp2, hO2⟩ := hp.1 _ rfl; subst hp2; obtain ⟨q2, c2, g2, o2, ev, hc2, hm2, hq2, hg2, hr2⟩ := hO2.is; subst ev; have hq2 := hq2 (by simp); subst hq2; have y0 : W2.cell? ⟨g2, o2, none⟩ = some (.int .i64 1) := hr2 0 1 rfl)
  clear hp hN e2
  have hB2 := hB.keep b2
  have x1 : ∀ V, Below W2.heap.size W2 V → V.cell? ⟨g2, o2 + 1, none⟩ = some (.int .i64 o.s) := fun V h => keep_cell h (hr2 1 o.s rfl) (hg2 (by simp))
  have x2 : ∀ V, Below W2.heap.size W2 V → V.cell? ⟨g2, o2 + 2, none⟩ = some (.int .i64 o.k) := fun V h => keep_cell h (hr2 2 o.k rfl) (hg2 (by simp))
  have x3 : ∀ V, Below W2.heap.size W2 V → V.cell? ⟨g2, o2 + 3, none⟩ = some (.int .i64 o.t) := fun V h => keep_cell h (hr2 3 o.t rfl) (hg2 (by simp))
  have x4 : ∀ V, Below W2.heap.size W2 V → V.cell? ⟨g2, o2 + 4, none⟩ = some (.int .i64 o.y) := fun V h => keep_cell h (hr2 4 o.y rfl) (hg2 (by simp))
  have x5 : ∀ V, Below W2.heap.size W2 V → V.cell? ⟨g2, o2 + 5, none⟩ = some (.int .i64 o.v) := fun V h => keep_cell h (hr2 5 o.v rfl) (hg2 (by simp))
  clear hr2 hO2 y0
  refine region_L 16 (S := fun w' => Below W2.heap.size W2 w') (by kernel_rfl) ((Below.refl _ _).drew) (fun hHeld => ?_)
  have hdr : Below W2.heap.size W2 W2.drew := hHeld
  generalize W2.drew = V0 at *
  refine takeP (i := 0) (some 25) (by rfl) rfl rfl (by kernel_rfl) (by kernel_rfl) (by kernel_rfl) (fun _ _ _ h => h) (by rfl) (fun w => by go_simp; try rfl) hHeld ?_
  go_frame
  refine takeP (i := 3) (some 28) (by rfl) rfl rfl (by kernel_rfl) (by kernel_rfl) (by kernel_rfl) (fun _ _ _ h => h) (by rfl) (fun w => by go_simp; try rfl) hHeld ?_
  go_frame
  refine takeP (i := 6) (some 31) (by rfl) rfl rfl (by kernel_rfl) (by kernel_rfl) (by kernel_rfl) (fun _ _ _ h => h) (by rfl) (fun w => by go_simp; try rfl) hHeld ?_
  go_frame
  refine takeP (i := 9) (some 34) (by rfl) rfl rfl (by kernel_rfl) (by kernel_rfl) (by kernel_rfl) (fun _ _ _ h => h) (by rfl) (fun w => by go_simp; try rfl) hHeld ?_
  go_frame
  refine takeP (i := 12) (some 37) (by rfl) rfl rfl (by kernel_rfl) (by kernel_rfl) (by kernel_rfl) (fun _ _ _ h => h) (by rfl) (fun w => by go_simp; try rfl) hHeld ?_
  go_frame
  refine takeP (i := 1) (some 26) (by rfl) rfl rfl (by kernel_rfl) (by kernel_rfl) (by kernel_rfl) (fun _ _ _ h => h) (by rfl) (fun w => by go_simp; try rfl) hHeld ?_
  go_frame
  refine takeP (i := 4) (some 29) (by rfl) rfl rfl (by kernel_rfl) (by kernel_rfl) (by kernel_rfl) (fun _ _ _ h => h) (by rfl) (fun w => by go_simp; try rfl) hHeld ?_
  go_frame
  refine takeP (i := 7) (some 32) (by rfl) rfl rfl (by kernel_rfl) (by kernel_rfl) (by kernel_rfl) (fun _ _ _ h => h) (by rfl) (fun w => by go_simp; try rfl) hHeld ?_
  go_frame
  refine takeP (i := 10) (some 35) (by rfl) rfl rfl (by kernel_rfl) (by kernel_rfl) (by kernel_rfl) (fun _ _ _ h => h) (by rfl) (fun w => by go_simp; try rfl) hHeld ?_
  go_frame
  refine takeP (i := 13) (some 38) (by rfl) rfl rfl (by kernel_rfl) (by kernel_rfl) (by kernel_rfl) (fun _ _ _ h => h) (by rfl) (fun w => by go_simp; try rfl) hHeld ?_
  go_frame
  refine takeL (i := 2) [15, 16] (some 27) (by rfl) rfl rfl (by kernel_rfl) (by kernel_rfl) (by kernel_rfl) (by kernel_rfl) (fun _ _ _ h => h) (by rfl) (fun w hSw => by (try dsimp only at hSw); (have h1 := x1 _ hSw; go_simp; try rfl)) hHeld ?_
  go_frame
  refine takeL (i := 5) [15, 16] (some 30) (by rfl) rfl rfl (by kernel_rfl) (by kernel_rfl) (by kernel_rfl) (by kernel_rfl) (fun _ _ _ h => h) (by rfl) (fun w hSw => by (try dsimp only at hSw); (have h1 := x2 _ hSw; go_simp; try rfl)) hHeld ?_
  go_frame
  refine takeL (i := 8) [15, 16] (some 33) (by rfl) rfl rfl (by kernel_rfl) (by kernel_rfl) (by kernel_rfl) (by kernel_rfl) (fun _ _ _ h => h) (by rfl) (fun w hSw => by (try dsimp only at hSw); (have h1 := x3 _ hSw; go_simp; try rfl)) hHeld ?_
  go_frame
  refine takeL (i := 11) [15, 16] (some 36) (by rfl) rfl rfl (by kernel_rfl) (by kernel_rfl) (by kernel_rfl) (by kernel_rfl) (fun _ _ _ h => h) (by rfl) (fun w hSw => by (try dsimp only at hSw); (have h1 := x4 _ hSw; go_simp; try rfl)) hHeld ?_
  go_frame
  refine takeL (i := 14) [15, 16] (some 39) (by rfl) rfl rfl (by kernel_rfl) (by kernel_rfl) (by kernel_rfl) (by kernel_rfl) (fun _ _ _ h => h) (by rfl) (fun w hSw => by (try dsimp only at hSw); (have h1 := x5 _ hSw; go_simp; try rfl)) hHeld ?_
  go_frame
  refine takeP (i := 15) (some 40) (by rfl) rfl rfl (by kernel_rfl) (by kernel_rfl) (by kernel_rfl) (fun _ _ _ h => h) (by rfl) (fun w => by go_simp; try rfl) hHeld ?_
  go_frame
  refine anyL_ready (rs := [16]) (by kernel_rfl) (by simp) (AllL.last rfl (by kernel_rfl) (fun K hK => ?_))
  rw [if_pos (by rfl)]
  refine st_opW none rfl rfl (k0 := zOp) (k1 := o) (hB2.keep hdr) rfl rfl fun W5 hB5 C5 => ?_
  refine hK.out _ _ ?_
  clear hK K
  try go_frame
  refine anyL_ready (rs := [17]) (by kernel_rfl) (by simp) (AllL.free rfl (by kernel_rfl) (fun K hK => ?_))
  go_simp
  refine hK.out _ _ ?_
  clear hK K
  refine anyL_done (by kernel_rfl) ?_
  go_wp2_with fail
  exact bodyPost_ret (results_c2 rfl _ _ _ 30 _ (0, 0) _ (.bool true) rfl rfl hB5 Tryz.underlying30 rfl (info_op5 o)) rfl ⟨rfl, ab_chg (ab_trans (ab_trans hw b2) hdr) C5 (Nat.le_refl _)⟩
end Go.Proofs.YthmolbcnbcajdaaGreat
