/-
  The chapter's examples: estuarylaw10.alive.
-/
import Derived.Test.YtjmdekddkpadeaaChB
import Derived.Lib.SmallJoins
namespace Go.Proofs.Ytjmdekddkpadeaa
open Go.RowKit
set_option linter.unusedVariables false

theorem geqBB (w : World) : (binOp .eql 28 (Err 11) (Err 11)).run Try.prog w = .ok (.bool true) w := by kernel_rfl
theorem geqN0 (w : World) : (binOp .eql 28 .nilIface .nilIface).run Try.prog w = .ok (.bool true) w := by kernel_rfl
theorem gx_1 : doN ⟨2, [], [5]⟩ [] = 0 ∧ doL ⟨2, [], [5]⟩ [] = [5] := by decide +kernel
theorem gx_2 : doN ⟨2, [], [6]⟩ [5] = 11 ∧ doL ⟨2, [], [6]⟩ [5] = [5] := by decide +kernel
theorem gx_3 : doN ⟨1, [], []⟩ [5] = 0 ∧ doL ⟨1, [], []⟩ [5] = [5] := by decide +kernel
theorem gdo_at (c : Cg) (vo vn v : Value) (l m : List Int) (k : Nat) (w : World) (ho : Is w vo c.o) (hn : Is w vn c.n) (hv : Is w v l) (hl : l.length ≤ 100000) (h : doN c l = k ∧ doL c l = m) :
    Calls Try.prog 10 #[cgV c.k vo vn, v] w fun e w' => ∃ q c, e = .returned (.tuple #[.slice q m.length c, errV k]) ∧ Io w' w.heap.size (.slice q m.length c) m ∧ Below w.heap.size w w' := by
  refine (gdo_any c vo vn v l w ho hn hv hl).mono ?_
  rintro e w' ⟨⟨q, n, c, rfl, hO, hn⟩, hb⟩
  rw [h.2] at hO hn
  rw [h.1]
  subst hn
  exact ⟨q, c, rfl, hO, hb⟩
set_option maxHeartbeats 2000000 in
set_option maxRecDepth 100000 in
theorem alive10_any (w : World) : Calls Try.prog 8 #[] w fun e w' => e = .returned (.bool true) ∧ Below w.heap.size w w' := by
  go_enter Try.func8, Try.ntmps8
  go_upto_region 2 with (first
    | (refine bs_own rfl rfl [5] (by simp only [List.map_toArray, List.map_cons, List.map_nil]; rfl) (isl1 _ _) rfl (by decide) ?_; intro W1 hN1 b1 z1; clear z1; go_frame)
    | (go_at_call 18; refine (gswap_any _ _ [] [5] _ (Is.nil _) (own_is hN1) (by decide) (by decide)).mono ?_; rintro e W2 ⟨q1, c1, q2, c2, rfl, hO1, hO2, b2⟩)
    | (go_at_call 10; refine (gdo_at ⟨2, [], [5]⟩ _ _ _ [] [5] 0 _ hO1.is hO2.is (Is.nil _) (by decide) gx_1).mono ?_; rintro e W3 ⟨q3, c3, rfl, hO3, b3⟩))
  have hw := ab_trans b1 (ab_trans b2 b3)
  have I3 : Is W3 (.slice q3 1 c3) [5] := hO3.is
  have e3 : errV 0 = .nilIface := rfl
  rw [e3]
  clear hO1 hO2 hO3 b1 b2 b3 hN1 e3
  go_upto_region 3 with (first
    | (refine bs_own rfl rfl [6] (by simp only [List.map_toArray, List.map_cons, List.map_nil]; rfl) (isl1 _ _) rfl (by decide) ?_; intro W4 hN4 b4 z4; clear z4; go_frame)
    | (go_at_call 18; refine (gswap_any _ _ [] [6] _ (Is.nil _) (own_is hN4) (by decide) (by decide)).mono ?_; rintro e W5 ⟨q4, c4, q5, c5, rfl, hO4, hO5, b5⟩)
    | (go_at_call 10; refine (gdo_at ⟨2, [], [6]⟩ _ _ _ [5] [5] 11 _ hO4.is hO5.is (I3.keep (ab_trans b4 b5)) (by decide) gx_2).mono ?_; rintro e W6 ⟨q6, c6, rfl, hO6, b6⟩))
  have hb6 := ab_trans b4 (ab_trans b5 b6)
  have hw6 := ab_trans hw hb6
  have I6 : Is W6 (.slice q6 1 c6) [5] := hO6.is
  have J3 := I3.keep hb6
  have e6 : errV 11 = Err 11 := rfl
  rw [e6]
  clear hO4 hO5 hO6 b4 b5 b6 hN4 hw I3 hb6 e6
  go_upto_region 4 with (first
    | (go_at_call 21; refine (gread_any _).mono ?_; rintro e W7 ⟨rfl, b7⟩)
    | (go_at_call 10; refine (gdo_at ⟨1, [], []⟩ _ _ _ [5] [5] 0 _ (Is.nil _) (Is.nil _) (I6.keep b7) (by decide) gx_3).mono ?_; rintro e W8 ⟨q8, c8, rfl, hO8, b8⟩))
  have hb8 := ab_trans b7 b8
  have hw8 := ab_trans hw6 hb8
  have I8 : Is W8 (.slice q8 1 c8) [5] := hO8.is
  have K3 := J3.keep hb8
  have K6 := I6.keep hb8
  have e8 : errV 0 = .nilIface := rfl
  rw [e8]
  clear hO8 b7 b8 hw6 hb8 J3 I6 e8
  obtain ⟨g3, o3, rfl, -, r3⟩ := K3.at (by omega)
  obtain ⟨g6, o6, rfl, -, r6⟩ := K6.at (by omega)
  obtain ⟨g8, o8, rfl, -, r8⟩ := I8.at (by omega)
  have z3 : W8.cell? ⟨g3, o3, none⟩ = some (.int .i64 5) := r3 0 5 rfl
  have z6 : W8.cell? ⟨g6, o6, none⟩ = some (.int .i64 5) := r6 0 5 rfl
  have z8 : W8.cell? ⟨g8, o8, none⟩ = some (.int .i64 5) := r8 0 5 rfl
  have E1 := geqBB
  have E2 := geqN0
  clear K3 K6 I8 r3 r6 r8
  go_wp2_with fail
  go_ret
  exact ⟨rfl, hw8⟩
end Go.Proofs.Ytjmdekddkpadeaa
