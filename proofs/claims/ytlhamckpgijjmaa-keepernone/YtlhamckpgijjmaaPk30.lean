/-
  tape's Sync, Replace, Arm, Fail.
-/
import Derived.Test.YtlhamckpgijjmaaPk29
namespace Go.Proofs.Ytlhamckpgijjmaa
open Go.RowKit
set_option linter.unusedVariables false

def syS (S : TS) : TS := if stN S = 0 then { stS S with sure := S.l.length } else stS S
set_option maxHeartbeats 1000000 in
theorem sync_any (base b : Nat) (v : Value) (S : TS) (w : World) (h : Tp w base b v S) (hst : S.steps < 4611686018427387904) :
    Calls Try.prog 75 #[tptr b] w fun e w' => e = .returned (errV (stN S)) ∧ Tp w' base b v (syS S) ∧ Mv b w w' v v := by
  have hl3 := stS_l S
  go_enter Try.func75, Try.ntmps75
  go_upto_region 2 with (go_at_call 52; refine (step_any base b v S _ h hst).mono ?_; rintro e W3 ⟨rfl, h3, k3⟩)
  by_cases h0 : stN S = 0
  · have hz := errV_ok h0
    rw [hz]
    have hS2 : Hid (syS S = { stS S with sure := S.l.length }) := if_pos h0
    obtain ⟨q0, cap0, e0, hc0, hm0⟩ := h3.form
    have c0 := h3.oct.c0
    have c1 := h3.oct.c1
    have f1 := h3.frozen 1
    have HB : Hid (Blk (W3.setCell ⟨b, 1, none⟩ (.int .i64 ((S.l.length : Nat) : Int))) b (tcs v { stS S with sure := S.l.length }) 63) := h3.blk.set 1 (.int .i64 ((S.l.length : Nat) : Int))
    have k4 := chg_set W3 b 1 (.int .i64 ((S.l.length : Nat) : Int))
    rw [e0, hl3.1] at c0
    have HZ : Hid (errV (stN S) = .nilIface) := hz
    clear hz h0 e0 hc0
    generalize hn : S.l.length = n at *
    go_wp2_with fail
    go_ret
    refine ⟨by rw [HZ.out]; rfl, ?_, mv_chg v (k3.trans k4)⟩
    rw [hS2.out]
    exact h3.chg HB.out k4 rfl (by show n ≤ _; rw [hl3.1]; omega) h3.bo h3.br
  · have hz := errV_no h0
    rw [hz]
    have hS2 : Hid (syS S = stS S) := if_neg h0
    have hne := ne_err ((stN S : Nat) : Int)
    generalize hX : ((stN S : Nat) : Int) = X at *
    go_wp2_with fail
    go_ret
    exact ⟨by rw [hz]; rfl, by rw [hS2.out]; exact h3, mv_chg v k3⟩
theorem arm_no (b : Nat) (n : Int) (w : World) (hn : n < 0) :
    Calls Try.prog 10 #[tptr b, .int .i64 n] w fun e w' => e = .returned (Err 1) ∧ w' = w := by
  go_enter Try.func10, Try.ntmps10
  go_wp2_with fail
  go_ret
  exact ⟨rfl, rfl⟩
theorem arm_ok (base b : Nat) (v : Value) (S : TS) (n : Nat) (w : World) (h : Tp w base b v S) (hn : n ≤ 9223372036854775807) :
    Calls Try.prog 10 #[tptr b, .int .i64 ((n : Nat) : Int)] w fun e w' => e = .returned .nilIface ∧ Tp w' base b v { S with os := true, oa := n } ∧ Mv b w w' v v := by
  have c3 := h.oct.c3
  have c4 := h.oct.c4
  have f3 := h.frozen 3
  have f4 := h.frozen 4
  go_enter Try.func10, Try.ntmps10
  go_wp2_with fail
  go_ret
  exact ⟨rfl, h.chg ((h.blk.set 3 _).set 4 _) ((chg_set _ _ _ _).trans (chg_set _ _ _ _)) rfl h.sure hn h.br, mv_chg v ((chg_set _ _ _ _).trans (chg_set _ _ _ _))⟩
/-- Replace's error, and the tape behind it. -/
def rpN (S : TS) (k : Nat) : Nat := if k ≤ 1048576 then stN S else 7
def rpS (S : TS) (m : List Nat) : TS := if m.length ≤ 1048576 then (if stN S = 0 then { stS S with l := m, sure := m.length } else stS S) else S
set_option maxHeartbeats 1000000 in
theorem replace_any (base b : Nat) (v vx : Value) (m : List Nat) (S : TS) (w : World) (h : Tp w base b v S) (hst : S.steps < 4611686018427387904) (hx : Stb b w v vx m) :
    Calls Try.prog 37 #[tptr b, vx] w fun e w' => e = .returned (errV (rpN S m.length)) ∧ ∃ v', Tp w' base b v' (rpS S m) ∧ Mv b w w' v v' := by
  obtain ⟨qx, capx, gx, offx, ex, hcx, hmx, -⟩ := hx.sl.open
  subst ex
  by_cases hfit : m.length ≤ 1048576
  · have hN : Hid (rpN S m.length = stN S) := if_pos hfit
    have hS : Hid (rpS S m = if stN S = 0 then { stS S with l := m, sure := m.length } else stS S) := if_pos hfit
    generalize hn : m.length = n at *
    have hfi : ¬ (1048576 : Int) < (n : Int) := by omega
    go_enter Try.func37, Try.ntmps37
    go_upto_region 4 with (go_at_call 52; refine (step_any base b v S _ h hst).mono ?_; rintro e W3 ⟨rfl, h3, k3⟩)
    by_cases h0 : stN S = 0
    · have hz := errV_ok h0
      rw [hz]
      have hS2 : Hid (rpS S m = { stS S with l := m, sure := n }) := hS.out.trans (if_pos h0)
      have hx3 := hx.mv (mv_chg v k3)
      go_wp2_with (go_at_call 50; refine (clone_big _ _ _ hx3.sl (by omega)).mono ?_; rintro e W4 ⟨v4, rfl, hown4, b4⟩; obtain ⟨q4, n4, cap4, e4⟩ := (own_sl hown4).2.slice; subst e4; have h4 := h3.keep b4; have c0 := h4.oct.c0; have c1 := h4.oct.c1; have f0 := h4.frozen 0; have f1 := h4.frozen 1)
      go_ret
      generalize hv4 : Value.slice q4 n4 cap4 = v4 at *
      have hlt := h3.lt
      have hown5 := own_less hown4 (Nat.le_of_lt hlt)
      have hap : v4.ownBlock ≠ some b := blk_own hown5 h4.blk (by decide)
      have hB5 := (h4.blk.set 0 v4).set 1 (.int .i64 ((n : Nat) : Int))
      have k5 : Chg b W4 _ := (chg_set W4 b 0 v4).trans (chg_set _ b 1 (.int .i64 ((n : Nat) : Int)))
      refine ⟨by rw [hN.out, hz]; rfl, v4, ?_, (mv_chg v k3).trans ((mv_new b4 (fun r hr => (hown4.lt r hr).1)).trans (mv_chg v4 k5))⟩
      rw [hS2.out]
      exact ⟨h.ge, hB5, own_chgT hown5 k5 hap, by show n ≤ m.length; omega, by show m.length ≤ _; omega, h3.bo, h3.br⟩
    · have hz := errV_no h0
      rw [hz]
      have hS2 : Hid (rpS S m = stS S) := hS.out.trans (if_neg h0)
      have hne := ne_err ((stN S : Nat) : Int)
      generalize hX : ((stN S : Nat) : Int) = X at *
      go_wp2_with fail
      go_ret
      exact ⟨by rw [hN.out, hz]; rfl, _, by rw [hS2.out]; exact h3, mv_chg v k3⟩
  · have hN : Hid (rpN S m.length = 7) := if_neg hfit
    have hS : Hid (rpS S m = S) := if_neg hfit
    have hfi : (1048576 : Int) < (m.length : Int) := by omega
    generalize hn : m.length = n at *
    go_enter Try.func37, Try.ntmps37
    go_wp2_with fail
    go_ret
    exact ⟨by rw [hN.out]; rfl, _, by rw [hS.out]; exact h, Mv.refl _ _ _⟩
end Go.Proofs.Ytlhamckpgijjmaa
