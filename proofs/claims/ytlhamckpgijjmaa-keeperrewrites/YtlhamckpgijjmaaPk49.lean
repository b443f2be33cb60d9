/-
  Keeper: one that is made.
-/
import Derived.Test.YtlhamckpgijjmaaPk48
namespace Go.Proofs.Ytlhamckpgijjmaa
open Go.RowKit
set_option linter.unusedVariables false
set_option maxRecDepth 100000

abbrev zK : KD := ⟨zB, zB, .slice none 0 0, []⟩
section
variable {ops : Array Oper} {rest : List Oper} {o : Oper} {a : Act} {w : World} {Q : Exit → Act → World → Prop}
theorem bldK (d : Nat) (node : Int) (x y : Operand) (ρ : Operand → Value) (hx : ρ x = tptr d) (hy : ρ y = .int .i64 node) (o : Oper) (ho : o.op = .build 70 #[(0, x), (1, y)]) (w : World) : (execOp ρ o).run Try.prog w = .ok (.value (.agg (kpC d node (List.replicate 100 zK)))) w := by
  unfold execOp
  simp only [ho, List.map_toArray, List.map_cons, List.map_nil, hx, hy]
  kernel_rfl
theorem bld_k (hw : Region.wanted o (yielded ops a.tmps) = true) {x y : Operand} (ho : o.op = .build 70 #[(0, x), (1, y)]) (d : Nat) (node : Int) (hx : a.eval x = tptr d) (hy : a.eval y = .int .i64 node)
    (h : wpList Try.prog ops Q rest (a.put o.dst (.agg (kpC d node (List.replicate 100 zK)))) w) : wpList Try.prog ops Q (o :: rest) a w :=
  valS hw _ (bldK d node x y a.eval hx hy o ho w) h
theorem boxK (d : Nat) (node : Int) (x : Operand) (ρ : Operand → Value) (hx : ρ x = .agg (kpC d node (List.replicate 100 zK))) (o : Oper) (ho : o.op = .box 70 x) (w : World) : (execOp ρ o).run Try.prog w = .ok (.value (.pointer (some ⟨w.heap.size, 0, none⟩))) (w.alloc (.cells (kpC d node (List.replicate 100 zK)) 70)) := by
  unfold execOp
  simp only [ho, hx]
  kernel_rfl
theorem box_k (hw : Region.wanted o (yielded ops a.tmps) = true) {x : Operand} (ho : o.op = .box 70 x) (d : Nat) (node : Int) (hx : a.eval x = .agg (kpC d node (List.replicate 100 zK)))
    (h : ∀ W', Blk W' w.heap.size (kpC d node (List.replicate 100 zK)) 70 → Below w.heap.size w W' → wpList Try.prog ops Q rest (a.put o.dst (.pointer (some ⟨w.heap.size, 0, none⟩))) W') : wpList Try.prog ops Q (o :: rest) a w := by
  unfold wpList
  rw [if_pos hw]
  left
  unfold Oper.wp
  rw [boxK d node x a.eval hx o ho w]
  exact h _ (Blk.new _ _ _) ((Below.refl _ _).alloc (Nat.le_refl _) _)
end
set_option maxHeartbeats 2000000 in
theorem kopen_new (base b : Nat) (v : Value) (s n : Nat) (node : Int) (w : World) (hT : Tp w base b v (up [] s n)) (hst : n < 4611686018427387000) (h0 : 0 ≤ node) (h9 : node ≤ 999) :
    Calls Try.prog 9 #[.int .i64 node, tptr b] w fun e w' => ∃ d kb v', e = .returned (.tuple #[tptr kb, .nilIface]) ∧ Kp w' base b v' d kb (up [] s n) 0 0 node (List.replicate 100 zK) ∧ w.heap.size ≤ d ∧ w.heap.size ≤ kb ∧ Mv b w w' v v' := by
  have i0 : ¬ node < 0 := by omega
  have i9 : ¬ 999 < node := by omega
  go_enter Try.func9, Try.ntmps9
  go_wp2_with fail
  refine (dopen_up base b v [] s n w hT hst Rok.nil).mono ?_
  rintro e W1 ⟨d, q, c, vs, v', rfl, hd, hD, hL, hT1, m1⟩
  have E1 := ne00
  clear i0 i9
  rw [show ([] : List (List Nat)).length = 0 from rfl]
  go_upto_region 7 with (first
    | (refine bld_k rfl rfl d node rfl rfl ?_)
    | (refine box_k rfl rfl d node rfl ?_; intro W2 hB2 b2; go_frame))
  have hK : Kp W2 base b v' d W1.heap.size (up [] s n) 0 0 node (List.replicate 100 zK) := ⟨hT1.keep b2, hD.keep b2, hB2, List.length_replicate, fun r hr => (by rw [List.eq_of_mem_replicate hr]; exact Io.nil _ _), Nat.le_trans (Nat.le_of_lt hT.lt) hd, Nat.le_trans (Nat.le_of_lt hT.lt) m1.size⟩
  have hm := m1.trans (mv_below v' b2)
  clear E1 hB2
  go_wp2_with fail
  go_loopw [37] (fun iv wr => iv = .int .i64 0 ∧ wr = W2) (fun _ _ => 0)
  case atStart => exact ⟨rfl, rfl⟩
  case round =>
    obtain ⟨rfl, hwr⟩ := hrel
    subst hwr
    go_wp2_with fail
    go_ret2
    exact ⟨d, W1.heap.size, v', rfl, hK, hd, m1.size, hm⟩
end Go.Proofs.Ytlhamckpgijjmaa
