/-
  A tape that is up and not armed: its calls in short; a nil tape; alive.
  estuarylaw06.alive.
  Strings of bytes: lengths, sums, parts.
-/
import Derived.Test.YtlhamckpgijjmaaPk31
import Derived.Laws.Concat
namespace Go.Proofs.Ytlhamckpgijjmaa
open Go.RowKit
set_option linter.unusedVariables false

abbrev up (l : List Nat) (s n : Nat) : TS := ⟨l, s, n, false, 0, false, 0, false⟩
theorem up_N (l : List Nat) (s n : Nat) : stN (up l s n) = 0 := by simp [stN, duF]
theorem up_S (l : List Nat) (s n : Nat) : stS (up l s n) = up l s (n + 1) := by simp [stS, duF, duS, duA]
theorem append_up (base b : Nat) (v vp : Value) (vs : List Value) (ls : List (List Nat)) (l : List Nat) (s n : Nat) (w : World) (h : Tp w base b v (up l s n)) (hst : n < 4611686018427387904) (hL : StL b w v vp vs ls) (hfit : l.length + ls.flatten.length ≤ 1048576) :
    Calls Try.prog 74 #[tptr b, vp] w fun e w' => e = .returned .nilIface ∧ ∃ v', Tp w' base b v' (up (l ++ ls.flatten) s (n + 1)) ∧ Mv b w w' v v' := by
  have h1 : apN (up l s n) ls.flatten.length = 0 := by unfold apN; rw [if_pos hfit]; exact up_N l s n
  have h2 : apS (up l s n) ls.flatten = up (l ++ ls.flatten) s (n + 1) := by unfold apS; rw [if_pos hfit, if_pos (up_N l s n), up_S]
  refine (append_any base b v vp vs ls (up l s n) w h hst hL).mono fun e w' h' => ?_
  rw [h1, h2] at h'
  exact h'
theorem sync_up (base b : Nat) (v : Value) (l : List Nat) (s n : Nat) (w : World) (h : Tp w base b v (up l s n)) (hst : n < 4611686018427387904) :
    Calls Try.prog 75 #[tptr b] w fun e w' => e = .returned .nilIface ∧ Tp w' base b v (up l l.length (n + 1)) ∧ Mv b w w' v v := by
  have h2 : syS (up l s n) = up l l.length (n + 1) := by unfold syS; rw [if_pos (up_N l s n), up_S]
  refine (sync_any base b v (up l s n) w h hst).mono fun e w' h' => ?_
  rw [up_N, h2] at h'
  exact h'
theorem cut_up (base b : Nat) (v : Value) (l : List Nat) (s n : Nat) (w : World) (h : Tp w base b v (up l s n)) :
    Calls Try.prog 76 #[tptr b] w fun e w' => e = .returned (.tuple #[]) ∧ ∃ v', Tp w' base b v' (up (l.take s) s n) ∧ Mv b w w' v v' := by
  have h2 : ctS (up l s n) = up (l.take s) s n := rfl
  refine (cut_any base b v (up l s n) w h).mono fun e w' h' => ?_
  rw [h2] at h'
  exact h'
theorem crash_up (base b : Nat) (v : Value) (S : TS) (k : Int) (j : Nat) (w : World) (h : Tp w base b v S) (hk : -9223372036854775808 ≤ k ∧ k ≤ 9223372036854775807) (hj : S.sure + min k.toNat (S.l.length - S.sure) = j) :
    Calls Try.prog 17 #[tptr b, .int .i64 k] w fun e w' => e = .returned (.tuple #[]) ∧ ∃ v', Tp w' base b v' (up (S.l.take j) j S.steps) ∧ Mv b w w' v v' := by
  subst hj
  exact crash_any base b v S k w h hk
/-- What was just made. -/
theorem stb_own {w w' : World} {base b n : Nat} {v x : Value} {S : TS} {m : List Nat} (hT : Tp w base b v S) (h : w'.ownsRow w.heap.size 5 1 x n (bys m)) : Stb b w' v x m :=
  stb_far (own_sl h).2 fun g hg => by
    have h1 := (h.lt g hg).1
    have h2 := hT.blk.lt
    refine ⟨by omega, fun e => ?_⟩
    have := (hT.own.lt g e).2
    omega

/-! A nil tape. -/
theorem down_nil (w : World) : Calls Try.prog 16 #[.pointer none] w fun e w' => e = .returned (.bool true) ∧ w' = w := by
  go_enter Try.func16, Try.ntmps16
  go_wp2_with fail
  go_ret
  exact ⟨rfl, rfl⟩
theorem room_nil (w : World) : Calls Try.prog 80 #[.pointer none] w fun e w' => e = .returned (.int .i64 1048576) ∧ w' = w := by
  go_enter Try.func80, Try.ntmps80
  go_wp2_with fail
  go_ret
  exact ⟨rfl, rfl⟩
theorem read_nil (w : World) : Calls Try.prog 35 #[.pointer none] w fun e w' => e = .returned (.slice none 0 0) ∧ w' = w := by
  go_enter Try.func35, Try.ntmps35
  go_wp2_with fail
  go_ret
  exact ⟨rfl, rfl⟩
theorem step_nil (w : World) : Calls Try.prog 52 #[.pointer none] w fun e w' => e = .returned (Err 5) ∧ w' = w := by
  go_enter Try.func52, Try.ntmps52
  go_wp2_with (go_at_call 16; refine (down_nil _).mono ?_; rintro e W1 ⟨rfl, hW1⟩; subst W1)
  go_ret
  exact ⟨rfl, rfl⟩
theorem sync_nil (w : World) : Calls Try.prog 75 #[.pointer none] w fun e w' => e = .returned (Err 5) ∧ w' = w := by
  have hne := ne_err 5
  go_enter Try.func75, Try.ntmps75
  go_wp2_with (go_at_call 52; refine (step_nil _).mono ?_; rintro e W1 ⟨rfl, hW1⟩; subst W1)
  go_ret
  exact ⟨rfl, rfl⟩
theorem fit_full (v : Value) (vs : List Value) (ls : List (List Nat)) (w : World) (hv : Ls w v vs ls) (hd : decide (ls.flatten.length ≤ 1048576) = true) :
    Calls Try.prog 79 #[v, .int .i64 1048576] w fun e w' => e = .returned (.bool true) ∧ w' = w := by
  have := fit_any v vs ls 1048576 w hv (by omega)
  rwa [hd] at this
theorem append_nil (vp : Value) (vs : List Value) (ls : List (List Nat)) (w : World) (hL : Ls w vp vs ls) (hfit : ls.flatten.length ≤ 1048576) : Calls Try.prog 74 #[.pointer none, vp] w fun e w' => e = .returned (Err 5) ∧ w' = w := by
  have hne := ne_err 5
  have hd : Hid (decide (ls.flatten.length ≤ 1048576) = true) := decide_eq_true hfit
  go_enter Try.func74, Try.ntmps74
  go_wp2_with (first
      | (go_at_call 80; refine (room_nil _).mono ?_; rintro e W1 ⟨rfl, hW1⟩; subst W1)
      | (go_at_call 79; refine (fit_full _ _ _ _ hL hd.out).mono ?_; rintro e W2 ⟨rfl, hW2⟩; subst W2)
      | (go_at_call 52; refine (step_nil _).mono ?_; rintro e W1 ⟨rfl, hW1⟩; subst W1))
  go_ret
  exact ⟨rfl, rfl⟩
theorem replace_nil (q : Option Addr) (n cap : Nat) (w : World) (hfit : n ≤ 1048576) : Calls Try.prog 37 #[.pointer none, .slice q n cap] w fun e w' => e = .returned (Err 5) ∧ w' = w := by
  have hne := ne_err 5
  go_enter Try.func37, Try.ntmps37
  go_wp2_with (go_at_call 52; refine (step_nil _).mono ?_; rintro e W1 ⟨rfl, hW1⟩; subst W1)
  go_ret
  exact ⟨rfl, rfl⟩
theorem arm_nil (n : Int) (w : World) : Calls Try.prog 10 #[.pointer none, .int .i64 n] w fun e w' => e = .returned (Err 1) ∧ w' = w := by
  go_enter Try.func10, Try.ntmps10
  go_wp2_with fail
  go_ret
  exact ⟨rfl, rfl⟩
theorem cut_nil (w : World) : Calls Try.prog 76 #[.pointer none] w fun e w' => e = .returned (.tuple #[]) ∧ w' = w := by
  go_enter Try.func76, Try.ntmps76
  go_wp2_with (go_at_call 16; refine (down_nil _).mono ?_; rintro e W1 ⟨rfl, hW1⟩; subst W1)
  refine bodyPost_ret (results_none rfl _ _ _) rfl ?_
  exact ⟨rfl, rfl⟩
theorem crash_nil (n : Int) (w : World) : Calls Try.prog 17 #[.pointer none, .int .i64 n] w fun e w' => e = .returned (.tuple #[]) ∧ w' = w := by
  go_enter Try.func17, Try.ntmps17
  go_wp2_with fail
  refine bodyPost_ret (results_none rfl _ _ _) rfl ?_
  exact ⟨rfl, rfl⟩
end Go.Proofs.Ytlhamckpgijjmaa
namespace Go.Proofs.Ytlhamckpgijjmaa
open Go.RowKit
set_option linter.unusedVariables false
theorem stb_at {w w' : World} {base b n c : Nat} {v : Value} {S : TS} {m : List Nat} (hT : Tp w base b v S) (h : Sl w' (.slice (some ⟨w.heap.size, 0, none⟩) n c) m) : Stb b w' v (.slice (some ⟨w.heap.size, 0, none⟩) n c) m :=
  stb_far h fun g hg => by
    have hg' : w.heap.size = g := by simpa [Value.ownBlock] using hg
    have h2 := hT.blk.lt
    refine ⟨by omega, fun e => ?_⟩
    have := (hT.own.lt g e).2
    omega
theorem below_mark {w w1 w2 : World} (h : Below w.heap.size w w1) (k : Chg w.heap.size w1 w2) : Below w.heap.size w w2 := h.trans (k.below (Nat.le_refl _))
theorem str_abc : strB [97, 98, 99] = ⟨#[97, 98, 99]⟩ := by decide +kernel
end Go.Proofs.Ytlhamckpgijjmaa
namespace Go.Proofs.Ytlhamckpgijjmaa
open Go.RowKit
set_option linter.unusedVariables false

theorem add_strs (a b : ByteArray) (h : a.size + b.size ≤ 9223372036854775807) (w : World) : (binOp .add 9 (.string a) (.string b)).run Try.prog w = .ok (.string (a ++ b)) w := by
  have := run_string_add_sum (P := Try.prog) (w := w) a b h
  simp [binOp, this]
theorem add_strB (l m : List Nat) (h : l.length + m.length ≤ 9223372036854775807) (w : World) : (binOp .add 9 (.string (strB l)) (.string (strB m))).run Try.prog w = .ok (.string (strB (l ++ m))) w := by
  rw [add_strs _ _ (by rw [strB_len, strB_len]; exact h), strB_app]
theorem strB_take (l : List Nat) (j : Nat) : (strB l).extract 0 j = strB (l.take j) := by
  apply ByteArray.ext
  simp [strB, strOfNums, List.map_take]
/-- 's[:j]' of a string of bytes, its run. -/
theorem ss_run {o : Oper} {w : World} {ρ : Operand → Value} {x y : Operand} (ho : o.op = .slice 9 x none (some y) none) {l : List Nat} {j : Nat} {J : Int} {k : IntKind}
    (hx : ρ x = .string (strB l)) (hy : ρ y = .int k J) (hJ : J = (j : Int)) (hj : j ≤ l.length) : (execOp ρ o).run Try.prog w = .ok (.value (.string (strB (l.take j)))) w := by
  subst hJ
  have h2 : (j : Int) ≤ ((strB l).size : Int) := by rw [strB_len]; omega
  unfold execOp
  simp only [ho, hx, hy, Option.map_some, Option.map_none, Sem.run_bind, run_sliceAt_string w 9 _ _ _ _ Try.underlying9, run_slice_string_h w 9 (strB l) Try.underlying9 k (j : Int) (by omega) h2, Result.andThen_ok, Sem.run_pure, Int.toNat_natCast]
  rw [strB_take]
theorem ss_h {ops : Array Oper} {rest : List Oper} {o : Oper} {a : Act} {w : World} {Q : Exit → Act → World → Prop} (hw : Region.wanted o (yielded ops a.tmps) = true) {x y : Operand} (ho : o.op = .slice 9 x none (some y) none) {l : List Nat} (j : Nat) {J : Int} {k : IntKind}
    (hx : a.eval x = .string (strB l)) (hy : a.eval y = .int k J) (hJ : J = (j : Int)) (hj : j ≤ l.length)
    (h : wpList Try.prog ops Q rest (a.put o.dst (.string (strB (l.take j)))) w) : wpList Try.prog ops Q (o :: rest) a w :=
  valS hw _ (ss_run ho hx hy hJ hj) h
end Go.Proofs.Ytlhamckpgijjmaa
