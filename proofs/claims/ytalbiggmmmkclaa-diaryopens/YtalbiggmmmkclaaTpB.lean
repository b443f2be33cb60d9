/-
  tape's step and fit.
-/
import Derived.Test.YtalbiggmmmkclaaTpA
namespace Go.Proofs.Ytalbiggmmmkclaa
open Go.RowKit
set_option linter.unusedVariables false

/-- Whether a due step comes; what is left of it then. -/
def duF (s : Bool) (a : Nat) : Bool := s && (a == 0)
def duS (s : Bool) (a : Nat) : Bool := s && (a != 0)
def duA (s : Bool) (a : Nat) : Nat := if s then a - 1 else a
theorem duA_le {s : Bool} {a N : Nat} (h : a ≤ N) : duA s a ≤ N := by unfold duA; split <;> omega
/-- A step's error, and the tape behind it. -/
def stN (S : TS) : Nat := if S.down then 5 else if duF S.os S.oa then 5 else if duF S.rs S.ra then 6 else 0
def stS (S : TS) : TS := if S.down then S else if duF S.os S.oa then { S with os := duS S.os S.oa, oa := duA S.os S.oa, down := true } else { S with os := duS S.os S.oa, oa := duA S.os S.oa, steps := S.steps + 1, rs := duS S.rs S.ra, ra := duA S.rs S.ra }
theorem outage_any (base b : Nat) (v : Value) (S : TS) (w : World) (h : Tp w base b v S) :
    Calls Try.prog 61 #[.pointer (some ⟨b, 3, none⟩)] w fun e w' => e = .returned (.bool (duF S.os S.oa)) ∧ Tp w' base b v { S with os := duS S.os S.oa, oa := duA S.os S.oa } ∧ Chg b w w' := by
  obtain ⟨l, sure, steps, os, oa, rs, ra, down⟩ := S
  have hc3 := h.oct.c3
  have hc4 := h.oct.c4
  have ho := h.bo
  have hr := h.br
  dsimp only at hc3 hc4 ho hr
  cases os with
  | false => exact (comes_no b 3 w hc3).mono fun e w' ⟨he, hw⟩ => ⟨he, by subst hw; exact h, by subst hw; exact Chg.refl _ _⟩
  | true =>
    cases oa with
    | zero =>
      exact (comes_yes b 3 w hc3 hc4 (h.frozen 3) (h.frozen 4)).mono fun e w' ⟨he, hw⟩ => ⟨he, by subst hw; exact h.chg ((h.blk.set 3 _).set 4 _) ((chg_set _ _ _ _).trans (chg_set _ _ _ _)) rfl h.sure (by simp [duA]) hr, by subst hw; exact (chg_set _ _ _ _).trans (chg_set _ _ _ _)⟩
    | succ n =>
      exact (comes_near b 3 n w (by omega) hc3 hc4 (h.frozen 3) (h.frozen 4)).mono fun e w' ⟨he, hw⟩ => ⟨he, by subst hw; exact h.chg (h.blk.set 4 _) (chg_set _ _ _ _) rfl h.sure (by simp [duA]; omega) hr, by subst hw; exact chg_set _ _ _ _⟩
theorem refusal_any (base b : Nat) (v : Value) (S : TS) (w : World) (h : Tp w base b v S) :
    Calls Try.prog 61 #[.pointer (some ⟨b, 5, none⟩)] w fun e w' => e = .returned (.bool (duF S.rs S.ra)) ∧ Tp w' base b v { S with rs := duS S.rs S.ra, ra := duA S.rs S.ra } ∧ Chg b w w' := by
  obtain ⟨l, sure, steps, os, oa, rs, ra, down⟩ := S
  have hc3 := h.oct.c5
  have hc4 := h.oct.c6
  have ho := h.bo
  have hr := h.br
  dsimp only at hc3 hc4 ho hr
  cases rs with
  | false => exact (comes_no b 5 w hc3).mono fun e w' ⟨he, hw⟩ => ⟨he, by subst hw; exact h, by subst hw; exact Chg.refl _ _⟩
  | true =>
    cases ra with
    | zero =>
      exact (comes_yes b 5 w hc3 hc4 (h.frozen 5) (h.frozen 6)).mono fun e w' ⟨he, hw⟩ => ⟨he, by subst hw; exact h.chg ((h.blk.set 5 _).set 6 _) ((chg_set _ _ _ _).trans (chg_set _ _ _ _)) rfl h.sure ho (by simp [duA]), by subst hw; exact (chg_set _ _ _ _).trans (chg_set _ _ _ _)⟩
    | succ n =>
      exact (comes_near b 5 n w (by omega) hc3 hc4 (h.frozen 5) (h.frozen 6)).mono fun e w' ⟨he, hw⟩ => ⟨he, by subst hw; exact h.chg (h.blk.set 6 _) (chg_set _ _ _ _) rfl h.sure ho (by simp [duA]; omega), by subst hw; exact chg_set _ _ _ _⟩
set_option maxHeartbeats 400000 in
theorem step_any (base b : Nat) (v : Value) (S : TS) (w : World) (h : Tp w base b v S) (hst : S.steps < 4611686018427387904) :
    Calls Try.prog 51 #[tptr b] w fun e w' => e = .returned (errV (stN S)) ∧ Tp w' base b v (stS S) ∧ Chg b w w' := by
  have hc7 := h.oct.c7
  by_cases hd : S.down = true
  · have hN : Hid (stN S = 5) := by show _ = _; unfold stN; rw [if_pos hd]
    have hS : Hid (stS S = S) := by show _ = _; unfold stS; rw [if_pos hd]
    rw [hd] at hc7
    go_enter Try.func51, Try.ntmps51
    go_wp2_with (go_at_call 35; refine (down_any b _ _ hc7).mono ?_; rintro e W1 ⟨rfl, rfl⟩)
    go_ret
    exact ⟨by rw [hN.out]; rfl, by rw [hS.out]; exact h, Chg.refl _ _⟩
  · have hd' : S.down = false := by simpa using hd
    rw [hd'] at hc7
    by_cases hf : duF S.os S.oa = true
    · have hN : Hid (stN S = 5) := by show _ = _; unfold stN; rw [if_neg hd, if_pos hf]
      have hS : Hid (stS S = { S with os := duS S.os S.oa, oa := duA S.os S.oa, down := true }) := by show _ = _; unfold stS; rw [if_neg hd, if_pos hf]
      go_enter Try.func51, Try.ntmps51
      go_wp2_with (first
        | (go_at_call 35; refine (down_any b _ _ hc7).mono ?_; rintro e W1 ⟨rfl, rfl⟩)
        | (go_at_call 61; refine (outage_any base b v S _ h).mono ?_; rintro e W2 ⟨rfl, h2, k2⟩; rw [hf]; have c7' := h2.oct.c7; have f7' := h2.frozen 7))
      go_ret
      exact ⟨by rw [hN.out]; rfl, by rw [hS.out]; exact h2.chg (h2.blk.set 7 _) (chg_set _ _ _ _) rfl h2.sure h2.bo h2.br, k2.trans (chg_set _ _ _ _)⟩
    · have hf' : duF S.os S.oa = false := by simpa using hf
      have hS : Hid (stS S = { S with os := duS S.os S.oa, oa := duA S.os S.oa, steps := S.steps + 1, rs := duS S.rs S.ra, ra := duA S.rs S.ra }) := by show _ = _; unfold stS; rw [if_neg hd, if_neg hf]
      have hN : Hid (stN S = if duF S.rs S.ra then 6 else 0) := by show _ = _; unfold stN; rw [if_neg hd, if_neg hf]
      go_enter Try.func51, Try.ntmps51
      go_upto_region 7 with (first
        | (go_at_call 35; refine (down_any b _ _ hc7).mono ?_; rintro e W1 ⟨rfl, rfl⟩)
        | (go_at_call 61; refine (outage_any base b v S _ h).mono ?_; rintro e W2 ⟨rfl, h2, k2⟩; rw [hf']; have c2' : W2.cell? ⟨b, 2, none⟩ = some (.int .i64 ((S.steps : Nat) : Int)) := h2.oct.c2; have f2' := h2.frozen 2))
      have h3 := h2.chg (S' := { S with os := duS S.os S.oa, oa := duA S.os S.oa, steps := S.steps + 1 }) (h2.blk.set 2 (.int .i64 ((S.steps + 1 : Nat) : Int))) (chg_set W2 b 2 _) rfl h2.sure h2.bo h2.br
      have k3 : Chg b _ (W2.setCell ⟨b, 2, none⟩ (.int .i64 ((S.steps + 1 : Nat) : Int))) := k2.trans (chg_set W2 b 2 _)
      have he : (.int .i64 ((S.steps : Int) + 1) : Value) = .int .i64 ((S.steps + 1 : Nat) : Int) := by congr 1
      rw [he]
      generalize W2.setCell ⟨b, 2, none⟩ (.int .i64 ((S.steps + 1 : Nat) : Int)) = W3 at *
      clear he c2' f2' h2 k2
      cases hg : duF S.rs S.ra with
      | true =>
        rw [hg] at hN
        go_wp2_with (go_at_call 61; refine (refusal_any base b v _ _ h3).mono ?_; rintro e W4 ⟨rfl, h4, k4⟩; dsimp only; rw [hg])
        go_ret
        exact ⟨by rw [hN.out]; rfl, by rw [hS.out]; exact h4, k3.trans k4⟩
      | false =>
        rw [hg] at hN
        go_wp2_with (go_at_call 61; refine (refusal_any base b v _ _ h3).mono ?_; rintro e W4 ⟨rfl, h4, k4⟩; dsimp only; rw [hg])
        go_ret
        exact ⟨by rw [hN.out]; rfl, by rw [hS.out]; exact h4, k3.trans k4⟩
set_option maxHeartbeats 400000 in
theorem fit_any (v : Value) (vs : List Value) (ls : List (List Nat)) (R : Nat) (w : World) (hv : Ls w v vs ls) (hR : R ≤ 1048576) :
    Calls Try.prog 58 #[v, .int .i64 ((R : Nat) : Int)] w fun e w' => e = .returned (.bool (decide (ls.flatten.length ≤ R))) ∧ w' = w := by
  obtain ⟨q, cap, g, off, rfl, hc, hm, hp, hg, hr⟩ := hv.open
  obtain ⟨hlen, -, hE⟩ := hv
  generalize hn : ls.length = n at *
  go_enter Try.func58, Try.ntmps58
  go_wp2_with fail
  go_loopw [1, 9] (fun s i wr => ∃ k r : Nat, k ≤ n ∧ i = .int .i64 (k : Int) ∧ s = .int .i64 ((r : Nat) : Int) ∧ r + (ls.take k).flatten.length = R ∧ wr = w) (fun _ i _ => n - (intOf i).toNat)
  case atStart => exact ⟨0, R, by omega, rfl, rfl, by simp, rfl⟩
  case round =>
    obtain ⟨k, r, hk, rfl, rfl, hs, rfl⟩ := hrel
    by_cases c : k = n
    · subst c
      rw [List.take_of_length_le (by omega)] at hs
      have HD : Hid (decide (ls.flatten.length ≤ R) = true) := decide_eq_true (by omega)
      clear hp hg hr hE
      go_wp2_with fail
      go_ret
      exact ⟨by rw [HD.out]; rfl, rfl⟩
    · obtain ⟨y, hy⟩ : ∃ y, vs[k]? = some y := ⟨vs[k], List.getElem?_eq_getElem (by omega)⟩
      obtain ⟨l, hl⟩ : ∃ l, ls[k]? = some l := ⟨ls[k], List.getElem?_eq_getElem (by omega)⟩
      obtain rfl := hp (by omega)
      have d := hr k y hy
      obtain ⟨q2, cap2, g2, off2, rfl, hc2, hm2, hp2, hg2, hr2⟩ := (hE k y l hy hl).open
      have hki : (k : Int) < (n : Int) := by omega
      have hkn : k < n := by omega
      have HF := flat_len ls k l hl
      have HM := flat_mono ls (k + 1)
      generalize hA : (ls.take k).flatten.length = A at *
      generalize hA2 : (ls.take (k + 1)).flatten.length = A2 at *
      generalize hn2 : l.length = n2 at *
      clear hr hp hg hy hE hl hr2 hp2 hg2
      by_cases c1 : r < n2
      · have HD : Hid (decide (ls.flatten.length ≤ R) = false) := decide_eq_false (by omega)
        have c1' : (r : Int) < (n2 : Int) := by omega
        go_wp2_with fail
        go_ret
        exact ⟨by rw [HD.out]; rfl, rfl⟩
      · have c1' : ¬ (r : Int) < (n2 : Int) := by omega
        go_wp2_with fail
        refine ⟨⟨k + 1, r - n2, by omega, rfl, ?_, by omega, trivial⟩, by simp only [intOf]; omega⟩
        congr 1
        omega
end Go.Proofs.Ytalbiggmmmkclaa
