/-
  A tape has 2^20 bytes at most: estuarylaw06.TapeFull returns true for every input; no condition.
-/
import Derived.Test.YtoofgidmegplbaaTpH
import Derived.ProofKit
import Derived.OpenShut
import Derived.ChangeOld
import Derived.Below
import Derived.Lib.SmallJoins
namespace Go.Proofs.Ytoofgidmegplbaa.tapeFull
open Go.ChangeShapes Go.WideShapes Go.ChangeAt Go.RowKit Go.Joins
set_option linter.unusedVariables false

theorem flat1l (a : List Nat) : [a].flatten = a := by simp
theorem eq77 (w : World) : (binOp .eql 40 (Err 7) (Err 7)).run Try.prog w = .ok (.bool true) w := by kernel_rfl
theorem eq70 (w : World) : (binOp .eql 40 (Err 7) .nilIface).run Try.prog w = .ok (.bool false) w := by kernel_rfl
theorem eq00 (w : World) : (binOp .eql 40 .nilIface .nilIface).run Try.prog w = .ok (.bool true) w := by kernel_rfl
/-- 'make([]byte, n)'. -/
theorem mk_bytes {ops : Array Oper} {rest : List Oper} {o : Oper} {a : Act} {w : World} {Q : Exit → Act → World → Prop} (hw : Region.wanted o (yielded ops a.tmps) = true) {x y : Operand} (ho : o.op = .makeSlice 30 x y) {n : Nat} {N : Int}
    (hx : a.eval x = .int .i64 N) (hy : a.eval y = .int .i64 N) (hN : N = (n : Int)) (hn : n ≤ 4000000)
    (h : ∀ W' Z, Z.length = n → W'.ownsRow w.heap.size 5 1 (.slice (some ⟨w.heap.size, 0, none⟩) n n) n (bys Z) → Below w.heap.size w W' → wpList Try.prog ops Q rest (a.put o.dst (.slice (some ⟨w.heap.size, 0, none⟩) n n)) W') : wpList Try.prog ops Q (o :: rest) a w := by
  subst hN
  obtain ⟨i, hi, hz0, hz1, hz2⟩ := info_parts infoByte
  obtain ⟨w', hr, ho', hg⟩ := run_make_full (P := Try.prog) w w.heap.size 30 5 i _ 1 Try.underlying30 hi hz0 hz1 .i64 .i64 n (by rw [hz2]; omega) (by unfold maxLen; omega) (Nat.le_refl _)
  unfold wpList
  rw [if_pos hw]
  left
  unfold Oper.wp execOp
  simp only [ho, Sem.run_bind, hx, hy, hr, Result.andThen_ok]
  refine h _ (List.replicate n 0) (by simp) ?_ (below_grown (Below.refl _ _) hg)
  have e : bys (List.replicate n 0) = (madeCells (Value.cells (.int .u8 0)) (n * 1)).toList := by
    rw [Nat.mul_one, show Value.cells (.int .u8 0) = #[.int .u8 0] from rfl, toList_madeCells_one]
    simp [bys]
  rw [e]
  exact ho'
theorem mod5 (t : Int) : ∃ k : Nat, k < 5 ∧ wrap64 ((IntKind.u64.wrap t).tmod 5) = ((k : Nat) : Int) := by
  have h0 : 0 ≤ t % 18446744073709551616 := Int.emod_nonneg _ (by decide)
  rw [IntKind.wrap_u64]
  generalize t % 18446744073709551616 = T at *
  obtain ⟨u, rfl⟩ := Int.eq_ofNat_of_zero_le h0
  refine ⟨u % 5, Nat.mod_lt _ (by omega), ?_⟩
  rw [Int.tmod_eq_emod_of_nonneg h0, show ((u : Int) % 5) = ((u % 5 : Nat) : Int) from by omega]
  unfold wrap64
  omega
theorem full_N (l : List Nat) (s n k : Nat) (h : 1048576 < l.length + k) : apN (up l s n) k = 7 := if_neg (by show ¬ l.length + k ≤ _; omega)
theorem full_S (l : List Nat) (s n : Nat) (m : List Nat) (h : 1048576 < l.length + m.length) : apS (up l s n) m = up l s n := if_neg (by show ¬ l.length + m.length ≤ _; omega)
set_option maxRecDepth 100000 in
set_option maxHeartbeats 2000000 in
theorem walk (n : Int) (hn : -9223372036854775808 ≤ n ∧ n ≤ 9223372036854775807) (W : World) :
    Calls Try.prog 7 #[.int .i64 n] W fun e w' => e = .returned (.bool true) ∧ Below W.heap.size W w' := by
  obtain ⟨k, hk, HK⟩ := mod5 n
  go_enter Try.func7, Try.ntmps7
  go_upto_region 3 with (go_at_call 9; refine (alive6_any _).mono ?_; rintro e V1 ⟨rfl, hb1⟩)
  go_upto_region 4 with fail
  rw [HK]
  clear HK
  have hne0 := eq00
  go_upto_region 5 with (go_at_call 11; refine (new_any _).mono ?_; rintro e V2 ⟨rfl, h2', b2⟩; have h2 := h2'.less hb1.size; have bw2 := ab_trans hb1 b2; clear h2')
  go_wp2_with (first
    | (refine mk_bytes (n := 1048574) rfl rfl rfl rfl rfl (by omega) ?_; intro V3 Z hz hN3 b3; have h3 := h2.keep b3; have s3 := stb_own h2 hN3)
    | (refine bs_ls rfl rfl [_] [Z] (by simp only [List.map_toArray, List.map_cons, List.map_nil]; rfl) (bsl1 _ _ _ _) rfl (by decide) rfl (each1 s3.sl) ?_; intro V4 ls4 b4 k4; have h4 := h3.keep b4; have st4 := stl_new (n := 1) [_] [Z] h3 b4 k4 rfl (by decide) rfl (eachS1 s3)))
  refine (append_up _ _ _ _ _ _ _ _ _ _ h4 (by omega) st4 (by rw [flat1l, hz]; simp)).mono ?_
  rintro e V5 ⟨rfl, v5, h5', m5⟩
  have h5 : Tp V5 W.heap.size V1.heap.size v5 (up Z 0 1) := by rw [flat1l] at h5'; exact h5'
  have bw5 := bw2.trans (h2.below ((mv_below _ b3).trans ((mv_below _ b4).trans m5)))
  clear m5 h5' st4 ls4 k4 h4 b4 s3 h3 hN3 b3 h2 bw2
  go_upto_region 7 with fail
  go_wp2_with (first
    | (refine mk_bytes (n := k) rfl rfl rfl rfl rfl (by omega) ?_; intro V6 Y hy hN6 b6; have h6 := h5.keep b6; have s6 := stb_own h5 hN6)
    | (refine bs_ls rfl rfl [_] [Y] (by simp only [List.map_toArray, List.map_cons, List.map_nil]; rfl) (bsl1 _ _ _ _) rfl (by decide) rfl (each1 s6.sl) ?_; intro V7 ls7 b7 k7; have h7 := h6.keep b7; have st7 := stl_new (n := 1) [_] [Y] h6 b7 k7 rfl (by decide) rfl (eachS1 s6)))
  have bw7 := bw5.trans ((b6.mono (Nat.le_trans bw5.size (Nat.le_refl _))).trans (b7.mono (Nat.le_trans bw5.size b6.size)))
  by_cases hbig : 2 < k
  · have hki : (2 : Int) < (k : Int) := by omega
    have h77 := eq77
    refine (append_any _ _ _ _ _ _ _ _ h7 (by show 1 < _; omega) st7).mono ?_
    rintro e V8 ⟨rfl, v8, h8', m8⟩
    rw [flat1l, full_N _ _ _ _ (by rw [hz, hy]; omega), errV_no (by omega)]
    have h8 : Tp V8 W.heap.size V1.heap.size v8 (up Z 0 1) := by rw [flat1l, full_S _ _ _ _ (by rw [hz, hy]; omega)] at h8'; exact h8'
    have bw8 := bw7.trans (h7.below m8)
    clear m8 h8' st7 ls7 k7 h7 b7 s6 h6 hN6 b6 h5 bw5 bw7
    go_upto_region 8 with fail
    go_wp2_with (refine mk_bytes (n := 1048576 + k) rfl rfl rfl rfl (by omega) (by omega) ?_; intro V9 X hx hN9 b9; have h9 := h8.keep b9; have s9 := stb_own h8 hN9)
    refine (replace_any _ _ _ _ X _ _ h9 (by show 1 < _; omega) s9).mono ?_
    rintro e V10 ⟨rfl, v10, h10', m10⟩
    have eN : rpN (up Z 0 1) X.length = 7 := if_neg (by omega)
    have eS : rpS (up Z 0 1) X = up Z 0 1 := if_neg (by omega)
    rw [eN, errV_no (by omega)]
    have h10 : Tp V10 W.heap.size V1.heap.size v10 (up Z 0 1) := by rw [eS] at h10'; exact h10'
    have bw10 := bw8.trans ((b9.mono bw8.size).trans (h9.below m10))
    clear m10 h10' s9 h9 hN9 b9 h8 bw8 eN eS
    go_wp2_with (go_at_call 14; refine (steps_any _ _ _ h10.oct.c2).mono ?_; rintro e X ⟨rfl, hX⟩; subst X)
    go_ret
    exact ⟨rfl, bw10⟩
  · have hki : ¬ (2 : Int) < (k : Int) := by omega
    refine (append_up _ _ _ _ _ _ _ _ _ _ h7 (by omega) st7 (by rw [flat1l, hz, hy]; omega)).mono ?_
    rintro e V8 ⟨rfl, v8, h8', m8⟩
    have h8 : Tp V8 W.heap.size V1.heap.size v8 (up (Z ++ Y) 0 2) := by rw [flat1l] at h8'; exact h8'
    have bw8 := bw7.trans (h7.below m8)
    have hzy : Hid ((Z ++ Y).length = 1048574 + k) := by show _ = _; rw [List.length_append, hz, hy]
    clear m8 h8' st7 ls7 k7 h7 b7 s6 h6 hN6 b6 h5 bw5 bw7
    go_upto_region 8 with fail
    go_wp2_with (refine mk_bytes (n := 1048576 + k) rfl rfl rfl rfl (by omega) (by omega) ?_; intro V9 X hx hN9 b9; have h9 := h8.keep b9; have s9 := stb_own h8 hN9)
    refine (replace_any _ _ _ _ X _ _ h9 (by show 2 < _; omega) s9).mono ?_
    rintro e V10 ⟨rfl, v10, h10', m10⟩
    by_cases h0 : k = 0
    · subst h0
      have eN : rpN (up (Z ++ Y) 0 2) X.length = 0 := by unfold rpN; rw [if_pos (by omega)]; exact up_N _ _ _
      have eS : rpS (up (Z ++ Y) 0 2) X = up X 1048576 3 := by unfold rpS; rw [if_pos (by omega), if_pos (up_N _ _ _), up_S, hx]
      rw [eN, errV_ok rfl]
      have h10 : Tp V10 W.heap.size V1.heap.size v10 (up X 1048576 3) := by rw [eS] at h10'; exact h10'
      have bw10 := bw8.trans ((b9.mono bw8.size).trans (h9.below m10))
      clear m10 h10' s9 h9 hN9 b9 h8 bw8 eN eS
      go_wp2_with fail
      refine (sync_up _ _ _ _ _ _ _ h10 (by omega)).mono ?_
      rintro e V11 ⟨rfl, h11', m11⟩
      have h11 : Tp V11 W.heap.size V1.heap.size v10 (up X 1048576 4) := by rw [hx] at h11'; exact h11'
      have bw11 := bw10.trans (h10.below m11)
      clear m11 h11' h10 bw10
      go_wp2_with (go_at_call 13; refine (sure_any _ _ _ h11.oct.c1).mono ?_; rintro e X ⟨rfl, hX⟩; subst X)
      go_ret
      exact ⟨rfl, bw11⟩
    · have hk0 : ((k : Int) == 0) = false := by simp [h0]
      have h70 := eq70
      have eN : rpN (up (Z ++ Y) 0 2) X.length = 7 := if_neg (by omega)
      have eS : rpS (up (Z ++ Y) 0 2) X = up (Z ++ Y) 0 2 := if_neg (by omega)
      rw [eN, errV_no (by omega)]
      have h10 : Tp V10 W.heap.size V1.heap.size v10 (up (Z ++ Y) 0 2) := by rw [eS] at h10'; exact h10'
      have bw10 := bw8.trans ((b9.mono bw8.size).trans (h9.below m10))
      clear m10 h10' s9 h9 hN9 b9 h8 bw8 eN eS
      go_wp2_with fail
      refine (sync_up _ _ _ _ _ _ _ h10 (by omega)).mono ?_
      rintro e V11 ⟨rfl, h11', m11⟩
      have h11 : Tp V11 W.heap.size V1.heap.size v10 (up (Z ++ Y) (1048574 + k) 3) := by rw [hzy.out] at h11'; exact h11'
      have bw11 := bw10.trans (h10.below m11)
      clear m11 h11' h10 bw10
      go_wp2_with (go_at_call 13; refine (sure_any _ _ _ h11.oct.c1).mono ?_; rintro e X ⟨rfl, hX⟩; subst X)
      go_ret
      exact ⟨rfl, bw11⟩

theorem own : ownKnob Try.prog.godebug = none := by kernel_rfl
theorem laidOut : laidOutB Try.prog = true := by kernel_rfl

set_option maxRecDepth 100000 in
theorem lifted (os : Os) (started : os.Started) (H : Type) (enc : TypeId × Value → H) :
    ReturnsInHanded {} Try.checked os 7 .any (Rows.tapeFullSpec.pre6 enc Try.prog Try.f7 Rows.tapeFullRow.domain false) (Rows.tapeFullSpec.post enc Try.prog Try.f7 false true false false) := by
  refine returnsInHanded_of_change (C := Try.checked) own started (by kernel_rfl) Try.func7
    (ChangeSpec.witness6 (enc := enc) (C := Try.checked) false ⟨#[], #[.int .i64 0], []⟩ 8 (by kernel_rfl) (by kernel_rfl) (by kernel_rfl) (by kernel_rfl)) ?_
  intro W base args ds gs before hval0 hW hcnd _
  have hval : ∀ (j : Nat) t v, Try.f7.params[j]? = some t → args[j]? = some v → Value.okWide Try.prog W .any base t v := hval0
  have hW' := hW
  obtain ⟨p, q, hA0, hV, rfl, hfz, hnd⟩ := hW
  have hA : DataW.TrodAll enc Try.prog W 0 (fun _ => true) true Try.f7.params.toList args.toList ds p := hA0
  rw [Try.params7] at hA hval
  obtain ⟨v0, vs0, d0, ds0, p0, q0, hargs, rfl, rfl, h0, r0⟩ := trodAll_cons hA
  obtain ⟨rfl, rfl, rfl⟩ := trodAll_nil r0
  obtain rfl : args = #[v0] := by cases args; simp_all
  obtain ⟨rfl, rfl⟩ := trodVars_none hV
  have k0 := h0
  have lt0 : ∀ x ∈ p0, x.block < W.heap.size := by obtain ⟨m, hm⟩ := k0; exact DataW.trod_lt m _ _ _ hm
  obtain ⟨a0, rfl, rfl, rfl, w0⟩ := open_int Try.underlying3 (hval 0 3 v0 rfl rfl) h0
  clear hA0 hval0
  refine (walk a0 (bounds_i64 w0) W).mono fun e W' ⟨he, bel⟩ => ?_
  subst he
  exact ⟨_, rfl, _, _, _, [], _, [], hW', trodAll_mk1 (shut_bool Try.underlying4 _), (trodAll_cons_mk (Below.trod laidOut (by kernel_rfl) (of_decide_eq_true (by kernel_rfl)) k0 bel lt0) trodAll_mk0), rfl, bel.frame _, fun h => by cases h⟩

theorem over : Rows.tapeFullRow.holds Try.pinned (OpenSpec.ofChange Rows.tapeFullSpec) :=
  OpenClaim.holds_of_wide 7 Try.f7 rfl rfl rfl rfl rfl rfl rfl ⟨rfl, rfl, rfl, rfl, rfl⟩ rfl rfl rfl rfl rfl (by kernel_rfl) Try.func7 (by kernel_rfl)
    (of_decide_eq_true (by kernel_rfl)) (by unfold Func.isWrapper; first | (rw [if_pos (by decide +kernel)]; kernel_rfl) | (rw [if_neg (by decide +kernel)]; exact ⟨rfl, rfl⟩))
    (fun os started H enc _ => lifted os started H enc)

theorem proved : Rows.TapeFullSaid := over
end Go.Proofs.Ytoofgidmegplbaa.tapeFull
namespace Go.Proofs.Ytoofgidmegplbaa
theorem tapeFull_holds : Rows.TapeFullSaid := tapeFull.proved
#print axioms tapeFull_holds
end Go.Proofs.Ytoofgidmegplbaa
