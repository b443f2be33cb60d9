/-
  spring: the row of an operation, and what a row tells.
  spring: what a row tells: readOp.
-/
import Derived.Test.YthmolbcnbcajdaaGreatPk26
import Derived.Test.YthmolbcnbcajdaaGreatPk22
import Derived.Test.YthmolbcnbcajdaaGreatPk42
import Derived.Test.YthmolbcnbcajdaaGreatPk06
namespace Go.Proofs.YthmolbcnbcajdaaGreat
open Go.RowKit
set_option linter.unusedVariables false
set_option maxRecDepth 100000

theorem spn0 (w : World) : (binOp .neq 32 .nilIface .nilIface).run Tryz.prog w = .ok (.bool false) w := by kernel_rfl
theorem spn2 (w : World) : (binOp .neq 32 (Err 2) .nilIface).run Tryz.prog w = .ok (.bool true) w := by kernel_rfl
theorem isl5s (a b c d e : Int) (w : World) : (Instr.buildSlice 22 5 #[(0, .int .i64 a), (1, .int .i64 b), (2, .int .i64 c), (3, .int .i64 d), (4, .int .i64 e)]).run Tryz.prog w = .ok (.slice (some ⟨w.heap.size, 0, none⟩) 5 5) (w.alloc (.cells (ints [a, b, c, d, e]).toArray 3)) := by kernel_rfl
theorem isl6s (a b c d e f : Int) (w : World) : (Instr.buildSlice 22 6 #[(0, .int .i64 a), (1, .int .i64 b), (2, .int .i64 c), (3, .int .i64 d), (4, .int .i64 e), (5, .int .i64 f)]).run Tryz.prog w = .ok (.slice (some ⟨w.heap.size, 0, none⟩) 6 6) (w.alloc (.cells (ints [a, b, c, d, e, f]).toArray 3)) := by kernel_rfl
/-- The numbers, the bytes of an operation's row. -/
def opL (o : Op5) : List Int := [1, o.s, o.k, o.t, o.y, o.v]
def opB (o : Op5) : List Nat := numsB (opL o)
theorem opL_in {o : Op5} (h : Fit5 o) : In64 (opL o) := by
  obtain ⟨h1, h2, h3, h4, h5⟩ := h
  unfold J64 at *
  intro x hx
  simp only [opL, List.mem_cons, List.not_mem_nil, or_false] at hx
  rcases hx with rfl | rfl | rfl | rfl | rfl | rfl <;> omega
theorem opRow_any (o : Op5) (w : World) (hf : Fit5 o) : Calls Tryz.prog 33 #[opV o] w fun e w' => ∃ v, e = .returned v ∧ Ow w' w.heap.size v (opB o) ∧ Below w.heap.size w w' := by
  obtain ⟨A, hE, hX, hw⟩ := blk1 w (opA o) 30
  have y0 : A.cell? ⟨w.heap.size, 0, none⟩ = some (.int .i64 o.s) := hX.at rfl
  have y1 : A.cell? ⟨w.heap.size, 1, none⟩ = some (.int .i64 o.k) := hX.at rfl
  have y2 : A.cell? ⟨w.heap.size, 2, none⟩ = some (.int .i64 o.t) := hX.at rfl
  have y3 : A.cell? ⟨w.heap.size, 3, none⟩ = some (.int .i64 o.y) := hX.at rfl
  have y4 : A.cell? ⟨w.heap.size, 4, none⟩ = some (.int .i64 o.v) := hX.at rfl
  have h64 := opL_in hf
  unfold opV opA
  unfold opA at hE
  go_enter Tryz.func33, Tryz.ntmps33
  go_wp2_with (first
    | (refine bs_own rfl rfl (opL o) (by simp only [List.map_toArray, List.map_cons, List.map_nil]; rfl) (isl6s _ _ _ _ _ _ _) rfl (by decide) ?_; intro W2 hN b2 z2)
    | (go_at_call 56; refine (put_any _ [] _ (opL o) W2 (sl_nil _) (by simp) (own_is hN) (by simp [opL]) h64).mono ?_; rintro e W3 ⟨v3, rfl, O3, b3⟩))
  go_ret
  exact ⟨v3, rfl, by rw [List.nil_append] at O3; exact O3.less (ab_trans hw b2).size, ab_trans (ab_trans hw b2) b3⟩
/-- What a row tells. -/
def rdO (l : List Nat) : Option Op5 := match numsR l 6 with
  | some [a, s, k, t, y, v] => if a = 1 then some ⟨s, k, t, y, v⟩ else none
  | _ => none
theorem rdO_back {o : Op5} (h : Fit5 o) : rdO (opB o) = some o := by
  have hn : numsR (opB o) 6 = some (opL o) := numsR_some (nus_put _ (opL_in h)) (.inr (by show (6 : Int) ≤ 6; omega))
  unfold rdO
  rw [hn]
  rfl
end Go.Proofs.YthmolbcnbcajdaaGreat
namespace Go.Proofs.YthmolbcnbcajdaaGreat
open Go.RowKit
set_option linter.unusedVariables false
set_option maxRecDepth 100000

theorem rdO_none {l : List Nat} (h : numsR l 6 = none) : rdO l = none := by unfold rdO; rw [h]
theorem rdO_short {l : List Nat} {ns : List Int} (h : numsR l 6 = some ns) (hn : ns.length ≠ 6) : rdO l = none := by
  unfold rdO
  rw [h]
  match ns, hn with
  | [], _ => rfl
  | [_], _ => rfl
  | [_, _], _ => rfl
  | [_, _, _], _ => rfl
  | [_, _, _, _], _ => rfl
  | [_, _, _, _, _], _ => rfl
  | [_, _, _, _, _, _], h => exact absurd rfl h
  | _ :: _ :: _ :: _ :: _ :: _ :: _ :: _, _ => rfl
theorem six_of {ns : List Int} (h : ns.length = 6) : ∃ a s k t y v, ns = [a, s, k, t, y, v] := by
  match ns, h with
  | [a, s, k, t, y, v], _ => exact ⟨a, s, k, t, y, v, rfl⟩
theorem rdO_six {l : List Nat} {a s k t y v : Int} (h : numsR l 6 = some [a, s, k, t, y, v]) : rdO l = if a = 1 then some ⟨s, k, t, y, v⟩ else none := by unfold rdO; rw [h]
set_option maxHeartbeats 2000000 in
theorem readOp_no (v : Value) (l : List Nat) (w : World) (hv : Sl w v l) (hb : Byt l) (hl : l.length ≤ 100000) (hr : rdO l = none) :
    Calls Tryz.prog 44 #[v] w fun e w' => e = .returned (.tuple #[opV zOp, .bool false]) ∧ Below w.heap.size w w' := by
  obtain ⟨A, hE, hB, hw⟩ := blk1 w (opA zOp) 30
  have hN := fnums_any v l 6 A (hv.keep hw) hb hl
  obtain ⟨q, cap, e, -⟩ := id hv
  subst e
  unfold opA zOp at hE
  cases hn : numsR l 6 with
  | none =>
    rw [hn] at hN
    go_enter Tryz.func44, Tryz.ntmps44
    have e2 := spn2
    go_wp2_with (first
      | (go_at_call 65; refine hN.mono ?_; rintro e W2 ⟨hp, b2⟩; have hp2 := hp.2 rfl; subst hp2)
      | (refine st_op rfl rfl (k1 := zOp) (hB.keep b2) rfl rfl ?_; intro W5 hB5 C5))
    exact bodyPost_ret (results_c2 rfl _ _ _ 30 _ (0, 0) _ (.bool false) rfl rfl hB5 Tryz.underlying30 rfl (info_op5 zOp)) rfl ⟨rfl, ab_chg (ab_trans hw b2) C5 (Nat.le_refl _)⟩
  | some ns =>
    rw [hn] at hN
    by_cases h6 : ns.length = 6
    · obtain ⟨a, s, k, t, y, z, rfl⟩ := six_of h6
      have ha : a ≠ 1 := fun e => by rw [rdO_six hn, if_pos e] at hr; cases hr
      have ha2 : (a != 1) = true := by simp [ha]
      clear hr hn h6 ha
      go_enter Tryz.func44, Tryz.ntmps44
      have e2 := spn0
      go_wp2_with (first
        | (go_at_call 65; refine hN.mono ?_; rintro e W2 ⟨hp, b2⟩; obtain ⟨v2, hp2, hO2⟩ := hp.1 _ rfl; subst hp2; obtain ⟨q2, c2, g2, o2, ev, hc2, hm2, hq2, hg2, hr2⟩ := hO2.is; subst ev; have hq2 := hq2 (by simp); subst hq2; have y0 : W2.cell? ⟨g2, o2, none⟩ = some (.int .i64 a) := hr2 0 a rfl)
        | (refine st_op rfl rfl (k1 := zOp) (hB.keep b2) rfl rfl ?_; intro W5 hB5 C5))
      exact bodyPost_ret (results_c2 rfl _ _ _ 30 _ (0, 0) _ (.bool false) rfl rfl hB5 Tryz.underlying30 rfl (info_op5 zOp)) rfl ⟨rfl, ab_chg (ab_trans hw b2) C5 (Nat.le_refl _)⟩
    · have h6i : ((ns.length : Int) != 6) = true := by simp; omega
      clear hr hn h6
      go_enter Tryz.func44, Tryz.ntmps44
      have e2 := spn0
      go_wp2_with (first
        | (go_at_call 65; refine hN.mono ?_; rintro e W2 ⟨hp, b2⟩; obtain ⟨v2, hp2, hO2⟩ := hp.1 _ rfl; subst hp2; obtain ⟨q2, c2, ev⟩ := hO2.is.form; subst ev)
        | (refine st_op rfl rfl (k1 := zOp) (hB.keep b2) rfl rfl ?_; intro W5 hB5 C5))
      exact bodyPost_ret (results_c2 rfl _ _ _ 30 _ (0, 0) _ (.bool false) rfl rfl hB5 Tryz.underlying30 rfl (info_op5 zOp)) rfl ⟨rfl, ab_chg (ab_trans hw b2) C5 (Nat.le_refl _)⟩
end Go.Proofs.YthmolbcnbcajdaaGreat
