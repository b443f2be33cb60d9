/-
  A tape that is up and not armed: its calls in short; a nil tape; alive.
-/
import Derived.Test.YtalbiggmmmkclaaTpE
namespace Go.Proofs.Ytalbiggmmmkclaa
open Go.RowKit
set_option linter.unusedVariables false

abbrev up (l : List Nat) (s n : Nat) : TS := ⟨l, s, n, false, 0, false, 0, false⟩
theorem up_N (l : List Nat) (s n : Nat) : stN (up l s n) = 0 := by simp [stN, duF]
theorem up_S (l : List Nat) (s n : Nat) : stS (up l s n) = up l s (n + 1) := by simp [stS, duF, duS, duA]
theorem append_up (base b : Nat) (v vp : Value) (vs : List Value) (ls : List (List Nat)) (l : List Nat) (s n : Nat) (w : World) (h : Tp w base b v (up l s n)) (hst : n < 4611686018427387904) (hL : StL b w v vp vs ls) (hfit : l.length + ls.flatten.length ≤ 1048576) :
    Calls Try.prog 48 #[tptr b, vp] w fun e w' => e = .returned .nilIface ∧ ∃ v', Tp w' base b v' (up (l ++ ls.flatten) s (n + 1)) ∧ Mv b w w' v v' := by
  have h1 : apN (up l s n) ls.flatten.length = 0 := by unfold apN; rw [if_pos hfit]; exact up_N l s n
  have h2 : apS (up l s n) ls.flatten = up (l ++ ls.flatten) s (n + 1) := by unfold apS; rw [if_pos hfit, if_pos (up_N l s n), up_S]
  refine (append_any base b v vp vs ls (up l s n) w h hst hL).mono fun e w' h' => ?_
  rw [h1, h2] at h'
  exact h'
theorem sync_up (base b : Nat) (v : Value) (l : List Nat) (s n : Nat) (w : World) (h : Tp w base b v (up l s n)) (hst : n < 4611686018427387904) :
    Calls Try.prog 49 #[tptr b] w fun e w' => e = .returned .nilIface ∧ Tp w' base b v (up l l.length (n + 1)) ∧ Mv b w w' v v := by
  have h2 : syS (up l s n) = up l l.length (n + 1) := by unfold syS; rw [if_pos (up_N l s n), up_S]
  refine (sync_any base b v (up l s n) w h hst).mono fun e w' h' => ?_
  rw [up_N, h2] at h'
  exact h'
theorem cut_up (base b : Nat) (v : Value) (l : List Nat) (s n : Nat) (w : World) (h : Tp w base b v (up l s n)) :
    Calls Try.prog 56 #[tptr b] w fun e w' => e = .returned (.tuple #[]) ∧ ∃ v', Tp w' base b v' (up (l.take s) s n) ∧ Mv b w w' v v' := by
  have h2 : ctS (up l s n) = up (l.take s) s n := rfl
  refine (cut_any base b v (up l s n) w h).mono fun e w' h' => ?_
  rw [h2] at h'
  exact h'
theorem crash_up (base b : Nat) (v : Value) (S : TS) (k : Int) (j : Nat) (w : World) (h : Tp w base b v S) (hk : -9223372036854775808 ≤ k ∧ k ≤ 9223372036854775807) (hj : S.sure + min k.toNat (S.l.length - S.sure) = j) :
    Calls Try.prog 25 #[tptr b, .int .i64 k] w fun e w' => e = .returned (.tuple #[]) ∧ ∃ v', Tp w' base b v' (up (S.l.take j) j S.steps) ∧ Mv b w w' v v' := by
  subst hj
  exact crash_any base b v S k w h hk
/-- What was just made. -/
theorem stb_own {w w' : World} {base b n : Nat} {v x : Value} {S : TS} {m : List Nat} (hT : Tp w base b v S) (h : w'.ownsRow w.heap.size 5 1 x n (bys m)) : Stb b w' v x m :=
  stb_far (own_sl h).2 fun g hg => by
    have h1 := (h.lt g hg).1
    have h2 := hT.blk.lt
    refine ⟨by omega, fun e => ?_⟩
    have := (hT.own.lt g e).2
    omega

/-! A nil tape. -/
theorem steps_nil (w : World) : Calls Try.prog 33 #[.pointer none] w fun e w' => e = .returned (.int .i64 0) ∧ w' = w := by
  go_enter Try.func33, Try.ntmps33
  go_wp2_with fail
  go_ret
  exact ⟨rfl, rfl⟩
theorem down_nil (w : World) : Calls Try.prog 35 #[.pointer none] w fun e w' => e = .returned (.bool true) ∧ w' = w := by
  go_enter Try.func35, Try.ntmps35
  go_wp2_with fail
  go_ret
  exact ⟨rfl, rfl⟩
theorem room_nil (w : World) : Calls Try.prog 59 #[.pointer none] w fun e w' => e = .returned (.int .i64 1048576) ∧ w' = w := by
  go_enter Try.func59, Try.ntmps59
  go_wp2_with fail
  go_ret
  exact ⟨rfl, rfl⟩
theorem read_nil (w : World) : Calls Try.prog 32 #[.pointer none] w fun e w' => e = .returned (.slice none 0 0) ∧ w' = w := by
  go_enter Try.func32, Try.ntmps32
  go_wp2_with fail
  go_ret
  exact ⟨rfl, rfl⟩
theorem step_nil (w : World) : Calls Try.prog 51 #[.pointer none] w fun e w' => e = .returned (Err 5) ∧ w' = w := by
  go_enter Try.func51, Try.ntmps51
  go_wp2_with (go_at_call 35; refine (down_nil _).mono ?_; rintro e W1 ⟨rfl, hW1⟩; subst W1)
  go_ret
  exact ⟨rfl, rfl⟩
theorem sync_nil (w : World) : Calls Try.prog 49 #[.pointer none] w fun e w' => e = .returned (Err 5) ∧ w' = w := by
  have hne := ne_err 5
  go_enter Try.func49, Try.ntmps49
  go_wp2_with (go_at_call 51; refine (step_nil _).mono ?_; rintro e W1 ⟨rfl, hW1⟩; subst W1)
  go_ret
  exact ⟨rfl, rfl⟩
theorem fit_full (v : Value) (vs : List Value) (ls : List (List Nat)) (w : World) (hv : Ls w v vs ls) (hd : decide (ls.flatten.length ≤ 1048576) = true) :
    Calls Try.prog 58 #[v, .int .i64 1048576] w fun e w' => e = .returned (.bool true) ∧ w' = w := by
  have := fit_any v vs ls 1048576 w hv (by omega)
  rwa [hd] at this
theorem append_nil (vp : Value) (vs : List Value) (ls : List (List Nat)) (w : World) (hL : Ls w vp vs ls) (hfit : ls.flatten.length ≤ 1048576) : Calls Try.prog 48 #[.pointer none, vp] w fun e w' => e = .returned (Err 5) ∧ w' = w := by
  have hne := ne_err 5
  have hd : Hid (decide (ls.flatten.length ≤ 1048576) = true) := decide_eq_true hfit
  go_enter Try.func48, Try.ntmps48
  go_wp2_with (first
      | (go_at_call 59; refine (room_nil _).mono ?_; rintro e W1 ⟨rfl, hW1⟩; subst W1)
      | (go_at_call 58; refine (fit_full _ _ _ _ hL hd.out).mono ?_; rintro e W2 ⟨rfl, hW2⟩; subst W2)
      | (go_at_call 51; refine (step_nil _).mono ?_; rintro e W1 ⟨rfl, hW1⟩; subst W1))
  go_ret
  exact ⟨rfl, rfl⟩
theorem replace_nil (q : Option Addr) (n cap : Nat) (w : World) (hfit : n ≤ 1048576) : Calls Try.prog 37 #[.pointer none, .slice q n cap] w fun e w' => e = .returned (Err 5) ∧ w' = w := by
  have hne := ne_err 5
  go_enter Try.func37, Try.ntmps37
  go_wp2_with (go_at_call 51; refine (step_nil _).mono ?_; rintro e W1 ⟨rfl, hW1⟩; subst W1)
  go_ret
  exact ⟨rfl, rfl⟩
theorem arm_nil (n : Int) (w : World) : Calls Try.prog 23 #[.pointer none, .int .i64 n] w fun e w' => e = .returned (Err 1) ∧ w' = w := by
  go_enter Try.func23, Try.ntmps23
  go_wp2_with fail
  go_ret
  exact ⟨rfl, rfl⟩
theorem fail_nil (n : Int) (w : World) : Calls Try.prog 24 #[.pointer none, .int .i64 n] w fun e w' => e = .returned (Err 1) ∧ w' = w := by
  go_enter Try.func24, Try.ntmps24
  go_wp2_with fail
  go_ret
  exact ⟨rfl, rfl⟩
theorem cut_nil (w : World) : Calls Try.prog 56 #[.pointer none] w fun e w' => e = .returned (.tuple #[]) ∧ w' = w := by
  go_enter Try.func56, Try.ntmps56
  go_wp2_with (go_at_call 35; refine (down_nil _).mono ?_; rintro e W1 ⟨rfl, hW1⟩; subst W1)
  refine bodyPost_ret (results_none rfl _ _ _) rfl ?_
  exact ⟨rfl, rfl⟩
theorem crash_nil (n : Int) (w : World) : Calls Try.prog 25 #[.pointer none, .int .i64 n] w fun e w' => e = .returned (.tuple #[]) ∧ w' = w := by
  go_enter Try.func25, Try.ntmps25
  go_wp2_with fail
  refine bodyPost_ret (results_none rfl _ _ _) rfl ?_
  exact ⟨rfl, rfl⟩
end Go.Proofs.Ytalbiggmmmkclaa
