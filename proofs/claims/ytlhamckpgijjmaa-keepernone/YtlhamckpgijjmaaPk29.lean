/-
  tape.Append: what stays as it is while a tape turns; the loop that appends.
-/
import Derived.Test.YtlhamckpgijjmaaPk28
namespace Go.Proofs.Ytlhamckpgijjmaa
open Go.RowKit
set_option linter.unusedVariables false

/-- What lies in older memory. -/
theorem stb_old {W w : World} {base b : Nat} {v x : Value} {S : TS} {m : List Nat} (hT : Tp w base b v S) (hb : Below W.heap.size W w) (hW : W.heap.size ≤ base) (h : Sl W x m) : Stb b w v x m :=
  fun w' v' k => h.keep (hb.trans ((hT.below k).mono hW))
theorem stl_new {w w' : World} {base b n : Nat} {v : Value} {S : TS} (xs : List Value) (ls : List (List Nat)) (hT : Tp w base b v S) (hb : Below w.heap.size w w') (hB : Blk w' w.heap.size xs.toArray 59) (hn : xs.length = n) (hm : n ≤ maxLen) (hl : ls.length = n)
    (hE : ∀ (j : Nat) (x : Value) (l : List Nat), xs[j]? = some x → ls[j]? = some l → Stb b w v x l) : StL b w' v (.slice (some ⟨w.heap.size, 0, none⟩) n n) xs ls := by
  intro u v' k
  subst hn
  have hk := (mv_below v hb).trans k
  have h1 : w.heap.size ≠ b := by have := hT.blk.lt; omega
  have h2 : v.ownBlock ≠ some w.heap.size := fun e => by have := (hT.own.lt _ e).2; omega
  have hBu : Blk u w.heap.size xs.toArray 59 := by unfold Blk; rw [k.other _ hB.lt h1 h2]; exact hB
  refine ⟨hl.symm, ⟨_, _, rfl, Nat.le_refl _, hm, fun h0 => ⟨_, 0, rfl, hBu.lt, fun j x hx => ?_⟩⟩, fun j x l hx hl => hE j x l hx hl _ _ hk⟩
  rw [Nat.zero_add, hBu.cell j]
  simpa using hx
theorem stS_l (S : TS) : (stS S).l = S.l ∧ (stS S).sure = S.sure := by
  unfold stS
  split
  · exact ⟨rfl, rfl⟩
  · split <;> exact ⟨rfl, rfl⟩
/-- Append's error, and the tape behind it. -/
def apN (S : TS) (k : Nat) : Nat := if S.l.length + k ≤ 1048576 then stN S else 7
def apS (S : TS) (m : List Nat) : TS := if S.l.length + m.length ≤ 1048576 then (if stN S = 0 then { stS S with l := S.l ++ m } else stS S) else S
/-- Bytes behind its bytes. -/
theorem Tp.more {W W' : World} {base b n : Nat} {v v' : Value} {S : TS} {m : List Nat} (h : Tp W base b v S) (hown : W'.ownsRow base 5 1 v' n (bys (S.l ++ m))) (hB : Blk W' b (tcs v' S) 63) (hm : S.l.length + m.length ≤ 1048576) : Tp W' base b v' { S with l := S.l ++ m } := by
  have e : n = (S.l ++ m).length := ((own_sl hown).1).symm
  subst e
  have := h.sure
  exact ⟨h.ge, hB, hown, by show S.sure ≤ (S.l ++ m).length; rw [List.length_append]; omega, by show (S.l ++ m).length ≤ _; rw [List.length_append]; omega, h.bo, h.br⟩
theorem ne_err (n : Int) (w : World) : (binOp .neq 28 (Err n) .nilIface).run Try.prog w = .ok (.bool true) w := by kernel_rfl
set_option maxHeartbeats 1000000 in
theorem append_any (base b : Nat) (v vp : Value) (vs : List Value) (ls : List (List Nat)) (S : TS) (w : World) (h : Tp w base b v S) (hst : S.steps < 4611686018427387904) (hL : StL b w v vp vs ls) :
    Calls Try.prog 74 #[tptr b, vp] w fun e w' => e = .returned (errV (apN S ls.flatten.length)) ∧ ∃ v', Tp w' base b v' (apS S ls.flatten) ∧ Mv b w w' v v' := by
  obtain ⟨q0, cap0, e0, hc0, hm0⟩ := h.form
  have c0 := h.oct.c0
  rw [e0] at c0
  have hmx := h.max
  by_cases hfit : S.l.length + ls.flatten.length ≤ 1048576
  · have hd : Hid (decide (ls.flatten.length ≤ 1048576 - S.l.length) = true) := decide_eq_true (by omega)
    have hN : Hid (apN S ls.flatten.length = stN S) := if_pos hfit
    have hS : Hid (apS S ls.flatten = if stN S = 0 then { stS S with l := S.l ++ ls.flatten } else stS S) := if_pos hfit
    obtain ⟨q, cap, g, off, ep, hc, hm, hp, hg, hr⟩ := hL.ls.open
    have hlen := hL.ls.len
    subst ep
    generalize hn : ls.length = n at *
    go_enter Try.func74, Try.ntmps74
    go_upto_region 4 with (first
      | (go_at_call 80; refine (room_any b _ _ _ _ c0 hmx).mono ?_; rintro e W1 ⟨rfl, hW1⟩; subst W1)
      | (go_at_call 79; refine (fit_any _ _ _ _ _ hL.ls (by omega)).mono ?_; rintro e W2 ⟨rfl, hW2⟩; subst W2; rw [hd.out])
      | (go_at_call 52; refine (step_any base b v S _ h hst).mono ?_; rintro e W3 ⟨rfl, h3, k3⟩))
    by_cases h0 : stN S = 0
    · rw [errV_ok h0]
      have hS2 : Hid (apS S ls.flatten = { stS S with l := S.l ++ ls.flatten }) := hS.out.trans (if_pos h0)
      have hN2 : Hid (apN S ls.flatten.length = 0) := hN.out.trans h0
      have mv3 := mv_chg v k3
      have hl3 := (stS_l S).1
      have HM : Hid (∀ k, (ls.take k).flatten.length ≤ ls.flatten.length) := flat_mono ls
      generalize hT : stS S = T at *
      clear hN hS h0 hd c0 k3 hst
      go_wp2_with fail
      go_loopw [21] (fun i wr => ∃ (k : Nat) (v' : Value), k ≤ n ∧ i = .int .i64 (k : Int) ∧ Tp wr base b v' { T with l := T.l ++ (ls.take k).flatten } ∧ Mv b w wr v v') (fun i _ => n - (intOf i).toNat)
      case atStart => exact ⟨0, v, by omega, rfl, by simpa using h3, mv3⟩
      case round =>
        clear h3 mv3
        obtain ⟨k, v1, hk, rfl, h3, mv3⟩ := hrel
        by_cases c : k = n
        · subst c
          rw [List.take_of_length_le (by omega)] at h3
          clear hp hg hr
          go_wp2_with fail
          go_ret
          exact ⟨by rw [hN2.out]; rfl, _, by rw [hS2.out, ← hl3]; exact h3, mv3⟩
        · obtain ⟨y, hy⟩ : ∃ y, vs[k]? = some y := ⟨vs[k], List.getElem?_eq_getElem (by omega)⟩
          obtain ⟨l, hl⟩ : ∃ l, ls[k]? = some l := ⟨ls[k], List.getElem?_eq_getElem (by omega)⟩
          have hLr := hL _ _ mv3
          obtain ⟨q', cap', g', off', ep', hc', hm', hp', hg', hr'⟩ := hLr.open
          rw [hn] at ep' hp'
          obtain rfl := hp (by omega)
          have hp'' := hp' (by omega)
          cases ep'
          cases hp''
          have d := hr' k y hy
          have hsx := hLr.each k y l hy hl
          obtain ⟨q2, cap2, ey, -⟩ := id hsx
          have c0 := h3.oct.c0
          have hki : (k : Int) < (n : Int) := by omega
          have hkn : k < n := by omega
          have HT : Hid ((ls.take (k + 1)).flatten = (ls.take k).flatten ++ l) := flat_take ls k l hl
          have HF := flat_len ls k l hl
          have HM1 := HM.out (k + 1)
          have hown : wr.ownsRow base 5 1 v1 (T.l ++ (ls.take k).flatten).length (bys (T.l ++ (ls.take k).flatten)) := h3.own
          have hLen : Hid ((T.l ++ (ls.take k).flatten).length + l.length ≤ 1048576) := by
            show _ ≤ _
            rw [List.length_append, hl3]
            omega
          have hlt := h3.lt
          subst ey
          clear hr hp hg hy hl hr' hp' hg' hLr
          generalize hn2 : l.length = n2 at *
          go_wp2_with (at_builtin; refine app_t base rfl rfl rfl hown rfl hsx hn2 (by have := hLen.out; omega) (by omega) ?_; intro v5 W5 hown5 hgr5 hat5; have hB5 := blk_grownT h3.blk hgr5 h3.apart; have c05 := hB5.at (i := 0) rfl; have f05 := hB5.frozen 0; obtain ⟨q5, n5, cap5, e5⟩ := (own_sl hown5).2.slice; subst e5)
          have hap := blk_own hown5 hB5 (by decide)
          generalize hv5 : Value.slice q5 n5 cap5 = v5 at *
          have hB6 := hB5.set 0 v5
          have k6 := chg_set W5 b 0 v5
          have hown6 := own_chgT hown5 k6 hap
          refine ⟨⟨k + 1, v5, by omega, rfl, ?_, mv3.trans ((mv_grown hgr5 hat5).trans (mv_chg v5 k6))⟩, by simp only [intOf]; omega⟩
          rw [HT.out, ← List.append_assoc]
          exact h3.more hown6 hB6 (by have := hLen.out; rw [hn2]; exact this)
    · have hz := errV_no h0
      rw [hz]
      have hS2 : Hid (apS S ls.flatten = stS S) := hS.out.trans (if_neg h0)
      have hne := ne_err ((stN S : Nat) : Int)
      generalize hX : ((stN S : Nat) : Int) = X at *
      clear hp hg hr
      go_wp2_with fail
      go_ret
      exact ⟨by rw [hN.out, hz]; rfl, _, by rw [hS2.out]; exact h3, mv_chg v k3⟩
  · have hd : Hid (decide (ls.flatten.length ≤ 1048576 - S.l.length) = false) := decide_eq_false (by omega)
    have hN : Hid (apN S ls.flatten.length = 7) := if_neg hfit
    have hS : Hid (apS S ls.flatten = S) := if_neg hfit
    go_enter Try.func74, Try.ntmps74
    go_wp2_with (first
      | (go_at_call 80; refine (room_any b _ _ _ _ c0 hmx).mono ?_; rintro e W1 ⟨rfl, hW1⟩; subst W1)
      | (go_at_call 79; refine (fit_any _ _ _ _ _ hL.ls (by omega)).mono ?_; rintro e W2 ⟨rfl, hW2⟩; subst W2; rw [hd.out]))
    go_ret
    exact ⟨by rw [hN.out]; rfl, _, by rw [hS.out]; exact h, Mv.refl _ _ _⟩
end Go.Proofs.Ytlhamckpgijjmaa
