/-
  tape's Sync, Replace, Arm, Fail.
-/
import Derived.Test.YtoofgidmegplbabTpC
namespace Go.Proofs.Ytoofgidmegplbab
open Go.RowKit
set_option linter.unusedVariables false

def syS (S : TS) : TS := if stN S = 0 then { stS S with sure := S.l.length } else stS S
set_option maxHeartbeats 1000000 in
theorem sync_any (base b : Nat) (v : Value) (S : TS) (w : World) (h : Tp w base b v S) (hst : S.steps < 4611686018427387904) :
    Calls Try.prog 7 #[tptr b] w fun e w' => e = .returned (errV (stN S)) ∧ Tp w' base b v (syS S) ∧ Mv b w w' v v := by
  have hl3 := stS_l S
  go_enter Try.func7, Try.ntmps7
  go_upto_region 2 with (go_at_call 15; refine (step_any base b v S _ h hst).mono ?_; rintro e W3 ⟨rfl, h3, k3⟩)
  by_cases h0 : stN S = 0
  · have hz := errV_ok h0
    rw [hz]
    have hS2 : Hid (syS S = { stS S with sure := S.l.length }) := if_pos h0
    obtain ⟨q0, cap0, e0, hc0, hm0⟩ := h3.form
    have c0 := h3.oct.c0
    have c1 := h3.oct.c1
    have f1 := h3.frozen 1
    have HB : Hid (Blk (W3.setCell ⟨b, 1, none⟩ (.int .i64 ((S.l.length : Nat) : Int))) b (tcs v { stS S with sure := S.l.length }) 37) := h3.blk.set 1 (.int .i64 ((S.l.length : Nat) : Int))
    have k4 := chg_set W3 b 1 (.int .i64 ((S.l.length : Nat) : Int))
    rw [e0, hl3.1] at c0
    have HZ : Hid (errV (stN S) = .nilIface) := hz
    clear hz h0 e0 hc0
    generalize hn : S.l.length = n at *
    go_wp2_with fail
    go_ret
    refine ⟨by rw [HZ.out]; rfl, ?_, mv_chg v (k3.trans k4)⟩
    rw [hS2.out]
    exact h3.chg HB.out k4 rfl (by show n ≤ _; rw [hl3.1]; omega) h3.bo h3.br
  · have hz := errV_no h0
    rw [hz]
    have hS2 : Hid (syS S = stS S) := if_neg h0
    have hne := ne_err ((stN S : Nat) : Int)
    generalize hX : ((stN S : Nat) : Int) = X at *
    go_wp2_with fail
    go_ret
    exact ⟨by rw [hz]; rfl, by rw [hS2.out]; exact h3, mv_chg v k3⟩
/-- Replace's error, and the tape behind it. -/
def rpN (S : TS) (k : Nat) : Nat := if k ≤ 1048576 then stN S else 7
def rpS (S : TS) (m : List Nat) : TS := if m.length ≤ 1048576 then (if stN S = 0 then { stS S with l := m, sure := m.length } else stS S) else S
theorem mv_new {b : Nat} {w w' : World} {v v' : Value} (h : Below w.heap.size w w') (hn : ∀ r, v'.ownBlock = some r → w.heap.size ≤ r) : Mv b w w' v v' := ⟨h.os, h.tape, h.output, h.size, fun k hk _ _ => h.block k hk, fun r hr => .inr (hn r hr)⟩
end Go.Proofs.Ytoofgidmegplbab
