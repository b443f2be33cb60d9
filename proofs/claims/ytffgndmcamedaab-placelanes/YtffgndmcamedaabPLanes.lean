/-
  Lanes of unlike resolutions and shards are unlike, all of them are used, and a key's shard stays in its bounds: estuarylaw03.PlaceLanes returns true for every input; no condition.
-/
import Derived.Test.YtffgndmcamedaabAlive3
import Derived.ProofKit
import Derived.OpenShut
import Derived.ChangeOld
import Derived.Below
import Derived.Lib.SmallJoins
import Derived.Maps.OwnSet
import Derived.Maps.OwnOps
namespace Go.Proofs.Ytffgndmcamedaab.placeLanes
open Go.ChangeShapes Go.WideShapes Go.ChangeAt Go.RowKit Go.Joins Go.Maps
set_option linter.unusedVariables false

theorem law : Keyed Try.prog 3 := int_keyed Try.underlying3
theorem zeroE (w : World) : (zeroValue 3).run Try.prog w = .ok (.int .i64 0) w := by kernel_rfl
/-- A map of the call's own that has the keys 0 .. m - 1. -/
def Seen (W : World) (b m : Nat) : Prop := ∃ D : DataW Unit, W.ownsMap Try.prog 3 (plainElem Try.prog 3) b m D ∧ (∀ x : Int, (m : Int) ≤ x → Maps.has D (.int .i64 x) = false) ∧ Maps.size D = m
theorem seen_keep {W W' : World} {b m : Nat} (h : Seen W b m) (hb : Below W.heap.size W W') : Seen W' b m := by
  obtain ⟨D, h1, h2, h3⟩ := h
  refine ⟨D, ?_, h2, h3⟩
  have hlt := h1.lt
  obtain ⟨es, clock, hbk, F, hs, hD⟩ := h1
  exact ⟨es, clock, (hb.block b hlt).trans hbk, F, hs, hD⟩
section
variable {ops : Array Oper} {rest : List Oper} {o : Oper} {a : Act} {w : World} {Q : Exit → Act → World → Prop}
/-- A key that isn't there. -/
theorem look0 (hw : Region.wanted o (yielded ops a.tmps) = true) {m x : Operand} (hop : o.op = Op.lookup 24 m x false) {b n : Nat} (hS : Seen w b n) (hm : a.eval m = .map (some b)) {k : Int} (hx : a.eval x = .int .i64 k) (k0 : (n : Int) ≤ k) (k1 : k ≤ 9223372036854775807)
    (h : wpList Try.prog ops Q rest (a.put o.dst (.int .i64 0)) w) : wpList Try.prog ops Q (o :: rest) a w := by
  obtain ⟨D, h1, h2, h3⟩ := hS
  obtain ⟨c, hrun, hat, -⟩ := h1.lookup_int law Try.underlying24 Try.underlying3 (zeroE _) (keyOf_int_mk (a := k) Try.underlying3 (WalkArith.wf_i64 (by omega)))
  have hc : c = 0 := by
    rw [atKey_of_not_has (h2 k k0)] at hat
    simpa using hat.symm
  subst hc
  refine valS hw _ ?_ h
  unfold execOp
  simp only [hop, hm, hx, Sem.run_bind, hrun, Result.andThen_ok, Sem.run_pure]
/-- A new key. -/
theorem put1 (hg : o.guard = none) {m x v : Operand} (hop : o.op = Op.mapUpdate 24 m x v) {b n : Nat} (hS : Seen w b n) (hm : a.eval m = .map (some b)) {k : Int} (hx : a.eval x = .int .i64 k) (hv : a.eval v = .int .i64 1) (hk : k = (n : Int)) (k1 : n ≤ 1000)
    {A : World} (hA : Below A.heap.size A w) (hAb : A.heap.size ≤ b)
    (h : ∀ w', Seen w' b (n + 1) → Below A.heap.size A w' → wpList Try.prog ops Q rest (a.put o.dst undef) w') : wpList Try.prog ops Q (o :: rest) a w := by
  subst hk
  obtain ⟨D, h1, h2, h3⟩ := hS
  refine wpList_mapUpdate_own _ hg m x v 24 hop 3 3 law Try.underlying24 _ b n D hm h1 (by unfold maxLen; omega) _ _ (.int .i64 (n : Int)) hx hv (keyOf_int_mk Try.underlying3 (WalkArith.wf_i64 (by omega))) _ [] (plainElem_int Try.underlying3 (by decide)) ?_
  intro w' ho hg
  refine h w' ⟨_, ho, fun x hx => ?_, ?_⟩ (hA.grown hg hA.size (fun r hr => by cases hr; exact hAb))
  · rw [has_put_other (by intro e; cases e; omega)]
    exact h2 x (by omega)
  · rw [size_put (h1.tidy law), h2 _ (Int.le_refl _)]
    simp [h3]
end

theorem few (r : Int) (k : Int) (h0 : 1 ≤ k) (h1 : k ≤ 100) : ∃ R : Nat, wrap64 (1 + wrap64 ((IntKind.u64.wrap r).tmod k)) = (R : Int) ∧ 1 ≤ R ∧ (R : Int) ≤ k := by
  have h2 : 0 ≤ IntKind.u64.wrap r := by simp [IntKind.wrap, IntKind.signed, IntKind.bits] <;> omega
  have h3 := Int.tmod_nonneg k h2
  have h4 := Int.tmod_lt_of_pos (IntKind.u64.wrap r) (b := k) (by omega)
  generalize (IntKind.u64.wrap r).tmod k = x at *
  refine ⟨(1 + x).toNat, ?_, by omega, by omega⟩
  unfold wrap64; omega
theorem lane_num (i s n : Nat) (hi : i ≤ 3) (hs : s ≤ 4) (hn : n ≤ 4) : lnN (i : Int) (s : Int) (n : Int) = ((i * n + s : Nat) : Int) := by
  have : i * n ≤ 3 * 4 := Nat.mul_le_mul hi hn
  unfold lnN
  rw [Int.natCast_add, Int.natCast_mul]
  have h : ((i : Int) * (n : Int)) = ((i * n : Nat) : Int) := by rw [Int.natCast_mul]
  rw [h]
  unfold wrap64; omega
theorem mod_next (k : Int) (n : Nat) (h : 1 ≤ n) : flM (k + (n : Int)) (n : Int) = flM k (n : Int) ∧ 0 ≤ flM k (n : Int) ∧ flM k (n : Int) < (n : Int) := by
  unfold flM
  rw [if_neg (by omega), if_neg (by omega)]
  exact ⟨by simp, Int.emod_nonneg _ (by omega), Int.emod_lt_of_pos _ (by omega)⟩

set_option maxRecDepth 100000 in
set_option maxHeartbeats 1000000 in
theorem walk (r : Int) (hr : -9223372036854775808 ≤ r ∧ r ≤ 9223372036854775807) (s : Int) (hs : -9223372036854775808 ≤ s ∧ s ≤ 9223372036854775807) (w : World) :
    Calls Try.prog 3 #[.int .i64 r, .int .i64 s] w fun e w' => e = .returned (.bool true) ∧ Below w.heap.size w w' := by
  have hmm := @run_makeMap Try.prog
  go_enter Try.func3, Try.ntmps3
  go_upto_region 4 with (go_at_call 4; refine (alive3_any _).mono ?_; rintro e W1 ⟨rfl, hb⟩)
  obtain ⟨R, hR, R1, R3⟩ := few r 3 (by omega) (by omega)
  obtain ⟨N, hN, N1, N4⟩ := few s 4 (by omega) (by omega)
  rw [hR, hN]
  clear hR hN
  obtain ⟨P, hP⟩ : ∃ P, P = R * N := ⟨_, rfl⟩
  have hRN : (R : Int) * (N : Int) = (P : Int) := by rw [hP, Int.natCast_mul]
  have hP12 : P ≤ 12 := by rw [hP]; exact Nat.mul_le_mul (show R ≤ 3 by omega) (show N ≤ 4 by omega)
  go_wp2_with fail
  go_loopw [25] (fun iv wr => ∃ i : Nat, i ≤ R ∧ iv = .int .i64 (i : Int) ∧ Seen wr W1.heap.size (i * N) ∧ Below W1.heap.size W1 wr) (fun iv _ => R - (intOf iv).toNat)
  case atStart => exact ⟨0, by omega, rfl, ⟨.map [], by rw [Nat.zero_mul]; exact World.ownsMap_made _ _ _ _, fun _ _ => rfl, by rw [Nat.zero_mul]; rfl⟩, (Below.refl _ _).alloc (Nat.le_refl _) _⟩
  case round =>
    obtain ⟨i, hi, rfl, hS, hw⟩ := hrel
    by_cases c : i = R
    · subst c
      rw [← hP] at hS
      clear hP
      go_wp2_with fail
      go_loopw [9] (fun kv wr => ∃ k : Int, -9 ≤ k ∧ k ≤ 9 ∧ kv = .int .i64 k ∧ Seen wr W1.heap.size P ∧ Below W1.heap.size W1 wr) (fun kv _ => (9 - intOf kv).toNat)
      case atStart => exact ⟨-9, by omega, by omega, rfl, hS, hw⟩
      case round =>
        clear hS hw
        obtain ⟨k, hk0, hk1, rfl, hS, hw⟩ := hrel
        by_cases d : k = 9
        · subst d
          obtain ⟨D, hown, -, hsz⟩ := hS
          go_wp2_with (at_len; refine wpList_len_own _ rfl _ 24 rfl 3 3 Try.underlying24 _ _ _ D rfl hown ?_; rw [hsz])
          go_ret
          exact ⟨rfl, ab_trans hb hw⟩
        · have hk9 : k < 9 := by omega
          obtain ⟨m1, m2, m3⟩ := mod_next k N N1
          have m4 : decide (flM k (N : Int) < 0) = false := decide_eq_false (by omega)
          have m5 : decide ((N : Int) ≤ flM k (N : Int)) = false := decide_eq_false (by omega)
          have m6 : (flM k (N : Int) != flM k (N : Int)) = false := by simp
          go_upto_region 21 with (go_at_call 6; refine (shard_any _ _ _ (by omega) (by omega) (by omega)).mono ?_; rintro e W2 ⟨rfl, n2, rfl⟩)
          go_wp2_with (go_at_call 6; refine (shard_any (k + (N : Int)) _ _ (by omega) (by omega) (by omega)).mono ?_; rintro e W3 ⟨rfl, n3, rfl⟩; rw [m1])
          go_roundw
          case rel => exact ⟨k + 1, by omega, by omega, by go_num, seen_keep hS (ab_drewN (Below.refl _ _) _), ab_drewN hw _⟩
          case measure => simp [intOf]; omega
    · have hii : (i : Int) < (R : Int) := by omega
      have hiR : i * N + N ≤ P := by rw [hP]; have := Nat.mul_le_mul_right N (show i + 1 ≤ R by omega); rw [Nat.add_mul, Nat.one_mul] at this; exact this
      have HL := fun (s : Nat) (hs : s ≤ 4) => lane_num i s N (by omega) hs (by omega)
      clear hP
      have hI1 : Hid (i * N + N = (i + 1) * N) := by show _ = _; rw [Nat.add_mul, Nat.one_mul]
      generalize i * N = IN at *
      go_wp2_with fail
      go_loopw [29] (fun sv wr => ∃ s : Nat, s ≤ N ∧ sv = .int .i64 (s : Int) ∧ Seen wr W1.heap.size (IN + s) ∧ Below W1.heap.size W1 wr) (fun sv _ => N - (intOf sv).toNat)
      case atStart => exact ⟨0, by omega, rfl, hS, hw⟩
      case round =>
        clear hS hw
        obtain ⟨s, hs, rfl, hS, hw⟩ := hrel
        by_cases d : s = N
        · subst d
          rw [hI1.out] at hS
          go_wp2_with fail
          go_roundw
          case rel => exact ⟨i + 1, by omega, by go_num, hS, hw⟩
          case measure => simp [intOf]; omega
        · have hsi : (s : Int) < (N : Int) := by omega
          have hl := HL s (by omega)
          have hlt : IN + s < P := by omega
          clear HL hI1
          have hMs : Hid (IN + s + 1 = IN + (s + 1)) := by show _ = _; omega
          generalize IN + s = M at *
          have hM0 : decide ((M : Int) < 0) = false := decide_eq_false (by omega)
          have hM1 : decide (P ≤ M) = false := decide_eq_false (by omega)
          go_upto_region 12 with (go_at_call 5; refine (lane_any _ _ _ _).mono ?_; rintro e W2 ⟨rfl, rfl⟩; rw [hl])
          go_wp2_with (first
            | (at_lookup; refine look0 rfl rfl hS rfl rfl (Int.le_refl _) (by omega) ?_)
            | (at_mapUpdate; refine put1 rfl rfl hS rfl rfl rfl rfl (by omega) hw (Nat.le_refl _) ?_; intro W3 hS3 hw3))
          rw [hMs.out] at hS3
          go_roundw
          case rel => exact ⟨s + 1, by omega, by go_num, hS3, hw3⟩
          case measure => simp [intOf]; omega

theorem own : ownKnob Try.prog.godebug = none := by kernel_rfl
theorem laidOut : laidOutB Try.prog = true := by kernel_rfl

set_option maxRecDepth 100000 in
theorem lifted (os : Os) (started : os.Started) (H : Type) (enc : TypeId × Value → H) :
    ReturnsInHanded {} Try.checked os 3 .any (Rows.placeLanesSpec.pre6 enc Try.prog Try.f3 Rows.placeLanesRow.domain false) (Rows.placeLanesSpec.post enc Try.prog Try.f3 false true false false) := by
  refine returnsInHanded_of_change (C := Try.checked) own started (by kernel_rfl) Try.func3
    (ChangeSpec.witness6 (enc := enc) (C := Try.checked) false ⟨#[], #[.int .i64 0, .int .i64 0], []⟩ 8 (by kernel_rfl) (by kernel_rfl) (by kernel_rfl) (by kernel_rfl)) ?_
  intro W base args ds gs before hval0 hW hcnd _
  have hval : ∀ (j : Nat) t v, Try.f3.params[j]? = some t → args[j]? = some v → Value.okWide Try.prog W .any base t v := hval0
  have hW' := hW
  obtain ⟨p, q, hA0, hV, rfl, hfz, hnd⟩ := hW
  have hA : DataW.TrodAll enc Try.prog W 0 (fun _ => true) true Try.f3.params.toList args.toList ds p := hA0
  rw [Try.params3] at hA hval
  obtain ⟨v0, vs0, d0, ds0, p0, q0, hargs, rfl, rfl, h0, r0⟩ := trodAll_cons hA
  obtain ⟨v1, vs1, d1, ds1, p1, q1, rfl, rfl, rfl, h1, r1⟩ := trodAll_cons r0
  obtain ⟨rfl, rfl, rfl⟩ := trodAll_nil r1
  obtain rfl : args = #[v0, v1] := by cases args; simp_all
  obtain ⟨rfl, rfl⟩ := trodVars_none hV
  have k0 := h0
  have lt0 : ∀ x ∈ p0, x.block < W.heap.size := by obtain ⟨m, hm⟩ := k0; exact DataW.trod_lt m _ _ _ hm
  have k1 := h1
  have lt1 : ∀ x ∈ p1, x.block < W.heap.size := by obtain ⟨m, hm⟩ := k1; exact DataW.trod_lt m _ _ _ hm
  obtain ⟨a0, rfl, rfl, rfl, w0⟩ := open_int Try.underlying3 (hval 0 3 v0 rfl rfl) h0
  obtain ⟨a1, rfl, rfl, rfl, w1⟩ := open_int Try.underlying3 (hval 1 3 v1 rfl rfl) h1
  clear hA0 hval0
  refine (walk a0 (bounds_i64 w0) a1 (bounds_i64 w1) W).mono fun e W' ⟨he, bel⟩ => ?_
  subst he
  exact ⟨_, rfl, _, _, _, [], _, [], hW', trodAll_mk1 (shut_bool Try.underlying4 _), (trodAll_cons_mk (Below.trod laidOut (by kernel_rfl) (of_decide_eq_true (by kernel_rfl)) k0 bel lt0) (trodAll_cons_mk (Below.trod laidOut (by kernel_rfl) (of_decide_eq_true (by kernel_rfl)) k1 bel lt1) trodAll_mk0)), rfl, bel.frame _, fun h => by cases h⟩

theorem over : Rows.placeLanesRow.holds Try.pinned (OpenSpec.ofChange Rows.placeLanesSpec) :=
  OpenClaim.holds_of_wide 3 Try.f3 rfl rfl rfl rfl rfl rfl rfl ⟨rfl, rfl, rfl, rfl, rfl⟩ rfl rfl rfl rfl rfl (by kernel_rfl) Try.func3 (by kernel_rfl)
    (of_decide_eq_true (by kernel_rfl)) (by unfold Func.isWrapper; first | (rw [if_pos (by decide +kernel)]; kernel_rfl) | (rw [if_neg (by decide +kernel)]; exact ⟨rfl, rfl⟩))
    (fun os started H enc _ => lifted os started H enc)

theorem proved : Rows.PlaceLanesSaid := over
end Go.Proofs.Ytffgndmcamedaab.placeLanes
namespace Go.Proofs.Ytffgndmcamedaab
theorem placeLanes_holds : Rows.PlaceLanesSaid := placeLanes.proved
#print axioms placeLanes_holds
end Go.Proofs.Ytffgndmcamedaab
