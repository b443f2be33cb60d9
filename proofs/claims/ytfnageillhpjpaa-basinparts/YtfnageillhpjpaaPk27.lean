/-
  stream's Sample, Mark, Held, Places.
  math/bits.Mul of 1 and a small number.
  stream.New: slices.Repeat of one place.
-/
import Derived.Test.YtfnageillhpjpaaPk26
import Derived.Test.YtfnageillhpjpaaPk07
namespace Go.Proofs.Ytfnageillhpjpaa
open Go.RowKit
set_option linter.unusedVariables false
set_option maxRecDepth 100000

theorem info_op5 (o : Op5) : (Try.prog.info? 27).map (·.size) = some (opA o).size := by kernel_rfl
section
variable {ops : Array Oper} {rest : List Oper} {o : Oper} {a : Act} {w : World} {Q : Exit → Act → World → Prop}
/-- An operation into its box. -/
theorem st_op (hgd : o.guard = none) {x y : Operand} (ho : o.op = .store 27 x y) {b : Nat} {k0 k1 : Op5} (hB : Blk w b (opA k0) 27) (hx : a.eval x = .pointer (some ⟨b, 0, none⟩)) (hy : a.eval y = opV k1)
    (h : ∀ W', Blk W' b (opA k1) 27 → Chg b w W' → wpList Try.prog ops Q rest (a.put o.dst undef) W') : wpList Try.prog ops Q (o :: rest) a w :=
  st_blk hgd ho hB hx hy (info_op5 k1) rfl (by simp [opA, Value.oneCell']) h
end
theorem ret_op {x x' : Op5} {v : Value} (h : Hid (x = x')) : Ending.returned (.tuple #[.agg (opA x), v]) = .returned (.tuple #[opV x', v]) := by rw [h.out]; rfl
end Go.Proofs.Ytfnageillhpjpaa
namespace Go.Proofs.Ytfnageillhpjpaa
open Go.RowKit
set_option linter.unusedVariables false
set_option maxRecDepth 100000

theorem smul_any (c : Nat) (hc : c ≤ 12) (w : World) : Calls Try.prog 38 #[.int .u64 1, .int .u64 (c : Int)] w fun e w' => e = .returned (.tuple #[.int .u64 0, .int .u64 (c : Int)]) ∧ w' = w := by
  have h : c = 0 ∨ c = 1 ∨ c = 2 ∨ c = 3 ∨ c = 4 ∨ c = 5 ∨ c = 6 ∨ c = 7 ∨ c = 8 ∨ c = 9 ∨ c = 10 ∨ c = 11 ∨ c = 12 := by omega
  rcases h with rfl | rfl | rfl | rfl | rfl | rfl | rfl | rfl | rfl | rfl | rfl | rfl | rfl
  all_goals
    go_enter Try.func38, Try.ntmps38
    go_wp2_with (go_in)
    go_ret2
    exact ⟨rfl, rfl⟩
end Go.Proofs.Ytfnageillhpjpaa
namespace Go.Proofs.Ytfnageillhpjpaa
open Go.RowKit
set_option linter.unusedVariables false
set_option maxRecDepth 100000

theorem eltP : Try.prog.underlying 36 = some (.slice (Try.prog.elem 36)) := by kernel_rfl
theorem sizeP (w : World) : (sizeOf (Try.prog.elem 36)).run Try.prog w = .ok 2 w := by kernel_rfl
theorem e2_splice (p : Int × Int) (n m c : Nat) (h : n + m ≤ c) (z : Int × Int) : (E2.fl (List.replicate n p ++ List.replicate (c - n) z)).take (n * 2) ++ E2.fl (List.replicate m p) ++ (E2.fl (List.replicate n p ++ List.replicate (c - n) z)).drop (n * 2 + m * 2) = E2.fl (List.replicate (n + m) p ++ List.replicate (c - (n + m)) z) := by
  have h1 := E2.fl_take (List.replicate n p ++ List.replicate (c - n) z) n
  have h2 := E2.fl_drop (List.replicate n p ++ List.replicate (c - n) z) (n + m)
  rw [show (n + m) * E2.k = n * 2 + m * 2 from Nat.add_mul n m 2] at h2
  rw [show n * E2.k = n * 2 from rfl] at h1
  rw [h1, h2, ← E2.fl_append, ← E2.fl_append]
  congr 1
  have e : List.replicate (n + m) p = List.replicate n p ++ List.replicate m p := by simp
  rw [List.take_left' (by simp), e]
  congr 1
  rw [List.drop_append, List.drop_of_length_le (by simp), List.nil_append, List.length_replicate, List.drop_replicate]
  congr 1
  omega
set_option maxHeartbeats 2000000 in
theorem srepeat_any (p : Int × Int) (c : Nat) (g0 : Nat) (w : World) (h0 : 1 ≤ c) (hc : c ≤ 12) (hB : Blk w g0 #[.int .i64 p.1, .int .i64 p.2] 38) :
    Calls Try.prog 19 #[.slice (some ⟨g0, 0, none⟩) 1 1, .int .i64 (c : Int)] w fun e w' => ∃ v, e = .returned v ∧ EO E2 38 w' w.heap.size v (List.replicate c p) ∧ Below w.heap.size w w' := by
  have hci : (0 : Int) ≤ (c : Int) := by omega
  go_enter Try.func19, Try.ntmps19
  go_upto_region 6 with (go_at_call 38; refine (smul_any c hc _).mono ?_; rintro e w ⟨rfl, rfl⟩)
  go_upto_region 7 with (refine mk_e (E := E2) rfl (0, 0) rfl Try.underlying36 infoPl2 rfl rfl rfl rfl (by omega) (by omega) ?_; intro W1 hB1 b1)
  have hs0 := hB.keep b1
  have hlen1 : (E2.fl (List.replicate c ((0 : Int), (0 : Int)))).length = c * 2 := by rw [E2.fl_len, List.length_replicate]; rfl
  have hr1 := fun ty => run_copy_rowK (P := Try.prog) W1 36 36 ty 38 2 w.heap.size 0 c c ⟨g0, 0, none⟩ 1 1 _ 38 [.int .i64 p.1, .int .i64 p.2] Try.underlying36 sizePl2 hB1 (by rw [show Nat.min 1 c = 1 from Nat.min_eq_left h0]; rfl) (by
    intro j v hj
    rw [Addr.add_mid, Nat.zero_add, hs0.cell]; simpa using hj) (by simp [hlen1]; omega) (by simp [Value.oneCell'])
  have HE1 : Hid (E2.fl (List.replicate c ((0 : Int), (0 : Int))) = E2.fl (List.replicate c (0, 0))) := rfl
  have hx1 : ((E2.fl (List.replicate c ((0 : Int), (0 : Int)))).toArray.toList.take 0 ++ [.int .i64 p.1, .int .i64 p.2] ++ (E2.fl (List.replicate c ((0 : Int), (0 : Int)))).toArray.toList.drop (0 + [Value.int .i64 p.1, .int .i64 p.2].length)) = E2.fl (List.replicate 1 p ++ List.replicate (c - 1) (0, 0)) := by
    have := e2_splice p 0 1 c (by omega) (0, 0)
    simpa [En.fl_one1, E2] using this
  rw [hx1, show Nat.min 1 c = 1 from Nat.min_eq_left h0] at hr1
  have hB2 : Blk (W1.setRow w.heap.size (E2.fl (List.replicate 1 p ++ List.replicate (c - 1) (0, 0))).toArray) w.heap.size (E2.fl (List.replicate 1 p ++ List.replicate (c - 1) (0, 0))).toArray 38 := blk_setRow hB1 _
  have C2 := chg_setRow W1 w.heap.size (E2.fl (List.replicate 1 p ++ List.replicate (c - 1) (0, 0))).toArray
  clear hx1 HE1
  generalize W1.setRow w.heap.size (E2.fl (List.replicate 1 p ++ List.replicate (c - 1) (0, 0))).toArray = W2 at *
  have b2 := ab_chg b1 C2 (Nat.le_refl _)
  go_upto_region 8 with (refine cp_l rfl rfl _ _ rfl rfl hr1 ?_)
  clear hr1 hB1 hs0 hB b1 C2 hlen1
  go_loopw [8] (fun n wr => ∃ k : Nat, 1 ≤ k ∧ k ≤ c ∧ n = .int .i64 (k : Int) ∧ Blk wr w.heap.size (E2.fl (List.replicate k p ++ List.replicate (c - k) (0, 0))).toArray 38 ∧ Below w.heap.size w wr) (fun n _ => c - (intOf n).toNat)
  case atStart => exact ⟨1, Nat.le_refl _, h0, rfl, hB2, b2⟩
  case round =>
    clear hB2 b2
    obtain ⟨k, hk0, hk, rfl, hB, hb⟩ := hrel
    by_cases hkc : k = c
    · subst hkc
      rw [Nat.sub_self, List.replicate_zero, List.append_nil] at hB
      have HB : Hid (Blk wr w.heap.size (E2.fl (List.replicate k p)).toArray 38) := hB
      clear hB
      go_wp2_with fail
      go_ret
      refine ⟨_, rfl, eo_of (n := k) (own_blkE HB.out (Nat.le_refl _) (by rw [E2.fl_len, List.length_replicate]) (by unfold maxLen; omega)), hb⟩
    · have hki : (k : Int) < (c : Int) := by omega
      obtain ⟨m, hm⟩ : ∃ m, m = Nat.min k (c - k) := ⟨_, rfl⟩
      have hm1 : 1 ≤ m := by rw [hm]; exact Nat.le_min.2 ⟨hk0, by omega⟩
      have hm2 : m ≤ k := by rw [hm]; exact Nat.min_le_left _ _
      have hm3 : m ≤ c - k := by rw [hm]; exact Nat.min_le_right _ _
      obtain ⟨o', es, ho'⟩ := sliced_some w.heap.size 0 k c c 2
      have ho2 := ho' (by omega)
      rw [Nat.zero_add] at ho2
      subst ho2
      have hlen : (E2.fl (List.replicate k p ++ List.replicate (c - k) ((0 : Int), (0 : Int)))).length = c * 2 := by
        rw [E2.fl_len, List.length_append, List.length_replicate, List.length_replicate, show k + (c - k) = c by omega]; rfl
      have hr := fun (V : World) (hV : Blk V w.heap.size (E2.fl (List.replicate k p ++ List.replicate (c - k) ((0 : Int), (0 : Int)))).toArray 38) ty => run_copy_rowK (P := Try.prog) V 36 36 ty 38 2 w.heap.size (k * 2) (c - k) (c - k) ⟨w.heap.size, 0, none⟩ k c _ 38 (E2.fl (List.replicate m p)) Try.underlying36 sizePl2 hV (by rw [← hm, E2.fl_len, List.length_replicate]; rfl) (by
        intro j v hj
        have hj2 := (List.getElem?_eq_some_iff.1 hj).1
        have e : E2.fl (List.replicate k p ++ List.replicate (c - k) ((0 : Int), (0 : Int))) = E2.fl (List.replicate m p) ++ E2.fl (List.replicate (k - m) p ++ List.replicate (c - k) (0, 0)) := by
          rw [← E2.fl_append, ← List.append_assoc]
          congr 2
          rw [List.replicate_append_replicate]; congr 1; omega
        rw [Addr.add_mid, Nat.zero_add, hV.cell, e]
        simp only [List.getElem?_toArray]
        rw [List.getElem?_append_left hj2]
        exact hj) (by simp only [List.size_toArray]; rw [hlen, E2.fl_len, List.length_replicate]; show k * 2 + m * 2 ≤ c * 2; omega) (E2.fl_cell _)
      rw [← hm] at hr
      have hsp := e2_splice p k m c (by omega) (0, 0)
      simp only [E2.fl_len, List.length_replicate, show E2.k = 2 from rfl] at hr
      rw [hsp] at hr
      clear hsp hlen hm ho'
      go_upto_region 9 with fail
      refine wp_region_held_drew (S := fun _ => True) (by kernel_rfl) trivial (fun hHeld => ?_)
      have hBV : Blk wr.drew w.heap.size (E2.fl (List.replicate k p ++ List.replicate (c - k) (0, 0))).toArray 38 := hB
      have hbV : Below w.heap.size w wr.drew := ab_drew hb
      generalize wr.drew = V at *
      refine takeH (i := 0) (some 38) rfl rfl (by kernel_rfl) (by kernel_rfl) (by kernel_rfl) (fun _ _ _ h => h) (by rfl) (fun w hSw => by (try dsimp only at hSw); go_simp; try rfl) hHeld ?_
      go_frame
      refine takeH (i := 1) (some 39) rfl rfl (by kernel_rfl) (by kernel_rfl) (by kernel_rfl) (fun _ _ _ h => h) (by rfl) (fun w hSw => by (try dsimp only at hSw); go_simp; try rfl) hHeld ?_
      go_frame
      refine takeH (i := 2) (some 40) rfl rfl (by kernel_rfl) (by kernel_rfl) (by kernel_rfl) (fun _ _ _ h => h) (by rfl) (fun w hSw => by (try dsimp only at hSw); go_simp; try rfl) hHeld ?_
      go_frame
      refine takeH (i := 3) (some 41) rfl rfl (by kernel_rfl) (by kernel_rfl) (by kernel_rfl) (fun _ _ _ h => h) (by rfl) (fun w hSw => by (try dsimp only at hSw); (exact slo_l (x := .tmp 39) (y := .tmp 40) rfl rfl rfl rfl eltP (sizeP _) (by omega) (by omega) es)) hHeld ?_
      go_frame
      refine takeH (i := 4) (some 42) rfl rfl (by kernel_rfl) (by kernel_rfl) (by kernel_rfl) (fun _ _ _ h => h) (by rfl) (fun w hSw => by (try dsimp only at hSw); go_simp; try rfl) hHeld ?_
      go_frame
      refine takeH (i := 5) (some 43) rfl rfl (by kernel_rfl) (by kernel_rfl) (by kernel_rfl) (fun _ _ _ h => h) (by rfl) (fun w hSw => by (try dsimp only at hSw); go_simp; try rfl) hHeld ?_
      go_frame
      refine takeH (i := 6) (some 44) rfl rfl (by kernel_rfl) (by kernel_rfl) (by kernel_rfl) (fun _ _ _ h => h) (by rfl) (fun w hSw => by (try dsimp only at hSw); (exact slo_h (x := .tmp 42) (z := .tmp 43) rfl rfl rfl rfl eltP (sizeP _) (by omega))) hHeld ?_
      go_frame
      refine wpAnyH_ready (rs := [7]) (by kernel_rfl) (by simp) (AllReadyH.cons rfl (fun K hK => ?_) AllReadyH.nil)
      rw [if_pos (by rfl)]
      refine cpW (some 45) rfl rfl _ _ rfl rfl (hr V hBV) ?_
      have hB2 : Blk (V.setRow w.heap.size (E2.fl (List.replicate (k + m) p ++ List.replicate (c - (k + m)) (0, 0))).toArray) w.heap.size (E2.fl (List.replicate (k + m) p ++ List.replicate (c - (k + m)) (0, 0))).toArray 38 := blk_setRow hBV _
      have b2 := ab_chg hbV (chg_setRow V w.heap.size (E2.fl (List.replicate (k + m) p ++ List.replicate (c - (k + m)) (0, 0))).toArray) (Nat.le_refl _)
      refine hK.out _ _ trivial (fun hHeld => ?_)
      clear hK K hr hBV hbV
      generalize V.setRow w.heap.size (E2.fl (List.replicate (k + m) p ++ List.replicate (c - (k + m)) (0, 0))).toArray = W2 at *
      have hadd1 : IntKind.i64.wrap ((k : Int) + (m : Int)) = (k : Int) + (m : Int) := by simp [IntKind.wrap, IntKind.signed, IntKind.bits] <;> omega
      go_frame
      refine takeH (i := 8) (some 46) rfl rfl (by kernel_rfl) (by kernel_rfl) (by kernel_rfl) (fun _ _ _ h => h) (by rfl) (fun w hSw => by (try dsimp only at hSw); go_simp; try rfl) hHeld ?_
      go_frame
      refine takeH (i := 9) (some 8) rfl rfl (by kernel_rfl) (by kernel_rfl) (by kernel_rfl) (fun _ _ _ h => h) (by rfl) (fun w hSw => by (try dsimp only at hSw); go_simp; try rfl) hHeld ?_
      go_frame
      refine wpAnyH_done (by kernel_rfl) ?_ _
      go_wp2_with fail
      exact ⟨⟨k + m, by omega, by omega, by rw [Int.natCast_add], hB2, b2⟩, by simp only [intOf]; omega⟩
end Go.Proofs.Ytfnageillhpjpaa
