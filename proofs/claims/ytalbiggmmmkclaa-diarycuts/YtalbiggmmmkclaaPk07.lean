/-
  tape's step and fit.
  tape.Append: what stays as it is while a tape turns; the loop that appends.
  tape's Sync, Replace, Arm, Fail.
  A region that draws its order and whose last operation, z, writes what others read: what holds need hold only until z has come up. Nothing here names the program.
-/
import Derived.Test.YtalbiggmmmkclaaPk06
import Derived.Test.YtalbiggmmmkclaaPk01
import Derived.Deep.RegionHeld3
namespace Go.Proofs.Ytalbiggmmmkclaa
open Go.RowKit
set_option linter.unusedVariables false

/-- Whether a due step comes; what is left of it then. -/
def duF (s : Bool) (a : Nat) : Bool := s && (a == 0)
def duS (s : Bool) (a : Nat) : Bool := s && (a != 0)
def duA (s : Bool) (a : Nat) : Nat := if s then a - 1 else a
theorem duA_le {s : Bool} {a N : Nat} (h : a ≤ N) : duA s a ≤ N := by unfold duA; split <;> omega
/-- A step's error, and the tape behind it. -/
def stN (S : TS) : Nat := if S.down then 5 else if duF S.os S.oa then 5 else if duF S.rs S.ra then 6 else 0
def stS (S : TS) : TS := if S.down then S else if duF S.os S.oa then { S with os := duS S.os S.oa, oa := duA S.os S.oa, down := true } else { S with os := duS S.os S.oa, oa := duA S.os S.oa, steps := S.steps + 1, rs := duS S.rs S.ra, ra := duA S.rs S.ra }
theorem outage_any (base b : Nat) (v : Value) (S : TS) (w : World) (h : Tp w base b v S) :
    Calls Try.prog 61 #[.pointer (some ⟨b, 3, none⟩)] w fun e w' => e = .returned (.bool (duF S.os S.oa)) ∧ Tp w' base b v { S with os := duS S.os S.oa, oa := duA S.os S.oa } ∧ Chg b w w' := by
  obtain ⟨l, sure, steps, os, oa, rs, ra, down⟩ := S
  have hc3 := h.oct.c3
  have hc4 := h.oct.c4
  have ho := h.bo
  have hr := h.br
  dsimp only at hc3 hc4 ho hr
  cases os with
  | false => exact (comes_no b 3 w hc3).mono fun e w' ⟨he, hw⟩ => ⟨he, by subst hw; exact h, by subst hw; exact Chg.refl _ _⟩
  | true =>
    cases oa with
    | zero =>
      exact (comes_yes b 3 w hc3 hc4 (h.frozen 3) (h.frozen 4)).mono fun e w' ⟨he, hw⟩ => ⟨he, by subst hw; exact h.chg ((h.blk.set 3 _).set 4 _) ((chg_set _ _ _ _).trans (chg_set _ _ _ _)) rfl h.sure (by simp [duA]) hr, by subst hw; exact (chg_set _ _ _ _).trans (chg_set _ _ _ _)⟩
    | succ n =>
      exact (comes_near b 3 n w (by omega) hc3 hc4 (h.frozen 3) (h.frozen 4)).mono fun e w' ⟨he, hw⟩ => ⟨he, by subst hw; exact h.chg (h.blk.set 4 _) (chg_set _ _ _ _) rfl h.sure (by simp [duA]; omega) hr, by subst hw; exact chg_set _ _ _ _⟩
theorem refusal_any (base b : Nat) (v : Value) (S : TS) (w : World) (h : Tp w base b v S) :
    Calls Try.prog 61 #[.pointer (some ⟨b, 5, none⟩)] w fun e w' => e = .returned (.bool (duF S.rs S.ra)) ∧ Tp w' base b v { S with rs := duS S.rs S.ra, ra := duA S.rs S.ra } ∧ Chg b w w' := by
  obtain ⟨l, sure, steps, os, oa, rs, ra, down⟩ := S
  have hc3 := h.oct.c5
  have hc4 := h.oct.c6
  have ho := h.bo
  have hr := h.br
  dsimp only at hc3 hc4 ho hr
  cases rs with
  | false => exact (comes_no b 5 w hc3).mono fun e w' ⟨he, hw⟩ => ⟨he, by subst hw; exact h, by subst hw; exact Chg.refl _ _⟩
  | true =>
    cases ra with
    | zero =>
      exact (comes_yes b 5 w hc3 hc4 (h.frozen 5) (h.frozen 6)).mono fun e w' ⟨he, hw⟩ => ⟨he, by subst hw; exact h.chg ((h.blk.set 5 _).set 6 _) ((chg_set _ _ _ _).trans (chg_set _ _ _ _)) rfl h.sure ho (by simp [duA]), by subst hw; exact (chg_set _ _ _ _).trans (chg_set _ _ _ _)⟩
    | succ n =>
      exact (comes_near b 5 n w (by omega) hc3 hc4 (h.frozen 5) (h.frozen 6)).mono fun e w' ⟨he, hw⟩ => ⟨he, by subst hw; exact h.chg (h.blk.set 6 _) (chg_set _ _ _ _) rfl h.sure ho (by simp [duA]; omega), by subst hw; exact chg_set _ _ _ _⟩
set_option maxHeartbeats 400000 in
theorem step_any (base b : Nat) (v : Value) (S : TS) (w : World) (h : Tp w base b v S) (hst : S.steps < 4611686018427387904) :
    Calls Try.prog 51 #[tptr b] w fun e w' => e = .returned (errV (stN S)) ∧ Tp w' base b v (stS S) ∧ Chg b w w' := by
  have hc7 := h.oct.c7
  by_cases hd : S.down = true
  · have hN : Hid (stN S = 5) := by show _ = _; unfold stN; rw [if_pos hd]
    have hS : Hid (stS S = S) := by show _ = _; unfold stS; rw [if_pos hd]
    rw [hd] at hc7
    go_enter Try.func51, Try.ntmps51
    go_wp2_with (go_at_call 35; refine (down_any b _ _ hc7).mono ?_; rintro e W1 ⟨rfl, rfl⟩)
    go_ret
    exact ⟨by rw [hN.out]; rfl, by rw [hS.out]; exact h, Chg.refl _ _⟩
  · have hd' : S.down = false := by simpa using hd
    rw [hd'] at hc7
    by_cases hf : duF S.os S.oa = true
    · have hN : Hid (stN S = 5) := by show _ = _; unfold stN; rw [if_neg hd, if_pos hf]
      have hS : Hid (stS S = { S with os := duS S.os S.oa, oa := duA S.os S.oa, down := true }) := by show _ = _; unfold stS; rw [if_neg hd, if_pos hf]
      go_enter Try.func51, Try.ntmps51
      go_wp2_with (first
        | (go_at_call 35; refine (down_any b _ _ hc7).mono ?_; rintro e W1 ⟨rfl, rfl⟩)
        | (go_at_call 61; refine (outage_any base b v S _ h).mono ?_; rintro e W2 ⟨rfl, h2, k2⟩; rw [hf]; have c7' := h2.oct.c7; have f7' := h2.frozen 7))
      go_ret
      exact ⟨by rw [hN.out]; rfl, by rw [hS.out]; exact h2.chg (h2.blk.set 7 _) (chg_set _ _ _ _) rfl h2.sure h2.bo h2.br, k2.trans (chg_set _ _ _ _)⟩
    · have hf' : duF S.os S.oa = false := by simpa using hf
      have hS : Hid (stS S = { S with os := duS S.os S.oa, oa := duA S.os S.oa, steps := S.steps + 1, rs := duS S.rs S.ra, ra := duA S.rs S.ra }) := by show _ = _; unfold stS; rw [if_neg hd, if_neg hf]
      have hN : Hid (stN S = if duF S.rs S.ra then 6 else 0) := by show _ = _; unfold stN; rw [if_neg hd, if_neg hf]
      go_enter Try.func51, Try.ntmps51
      go_upto_region 7 with (first
        | (go_at_call 35; refine (down_any b _ _ hc7).mono ?_; rintro e W1 ⟨rfl, rfl⟩)
        | (go_at_call 61; refine (outage_any base b v S _ h).mono ?_; rintro e W2 ⟨rfl, h2, k2⟩; rw [hf']; have c2' : W2.cell? ⟨b, 2, none⟩ = some (.int .i64 ((S.steps : Nat) : Int)) := h2.oct.c2; have f2' := h2.frozen 2))
      have h3 := h2.chg (S' := { S with os := duS S.os S.oa, oa := duA S.os S.oa, steps := S.steps + 1 }) (h2.blk.set 2 (.int .i64 ((S.steps + 1 : Nat) : Int))) (chg_set W2 b 2 _) rfl h2.sure h2.bo h2.br
      have k3 : Chg b _ (W2.setCell ⟨b, 2, none⟩ (.int .i64 ((S.steps + 1 : Nat) : Int))) := k2.trans (chg_set W2 b 2 _)
      have he : (.int .i64 ((S.steps : Int) + 1) : Value) = .int .i64 ((S.steps + 1 : Nat) : Int) := by congr 1
      rw [he]
      generalize W2.setCell ⟨b, 2, none⟩ (.int .i64 ((S.steps + 1 : Nat) : Int)) = W3 at *
      clear he c2' f2' h2 k2
      cases hg : duF S.rs S.ra with
      | true =>
        rw [hg] at hN
        go_wp2_with (go_at_call 61; refine (refusal_any base b v _ _ h3).mono ?_; rintro e W4 ⟨rfl, h4, k4⟩; dsimp only; rw [hg])
        go_ret
        exact ⟨by rw [hN.out]; rfl, by rw [hS.out]; exact h4, k3.trans k4⟩
      | false =>
        rw [hg] at hN
        go_wp2_with (go_at_call 61; refine (refusal_any base b v _ _ h3).mono ?_; rintro e W4 ⟨rfl, h4, k4⟩; dsimp only; rw [hg])
        go_ret
        exact ⟨by rw [hN.out]; rfl, by rw [hS.out]; exact h4, k3.trans k4⟩
set_option maxHeartbeats 400000 in
theorem fit_any (v : Value) (vs : List Value) (ls : List (List Nat)) (R : Nat) (w : World) (hv : Ls w v vs ls) (hR : R ≤ 1048576) :
    Calls Try.prog 58 #[v, .int .i64 ((R : Nat) : Int)] w fun e w' => e = .returned (.bool (decide (ls.flatten.length ≤ R))) ∧ w' = w := by
  obtain ⟨q, cap, g, off, rfl, hc, hm, hp, hg, hr⟩ := hv.open
  obtain ⟨hlen, -, hE⟩ := hv
  generalize hn : ls.length = n at *
  go_enter Try.func58, Try.ntmps58
  go_wp2_with fail
  go_loopw [1, 9] (fun s i wr => ∃ k r : Nat, k ≤ n ∧ i = .int .i64 (k : Int) ∧ s = .int .i64 ((r : Nat) : Int) ∧ r + (ls.take k).flatten.length = R ∧ wr = w) (fun _ i _ => n - (intOf i).toNat)
  case atStart => exact ⟨0, R, by omega, rfl, rfl, by simp, rfl⟩
  case round =>
    obtain ⟨k, r, hk, rfl, rfl, hs, rfl⟩ := hrel
    by_cases c : k = n
    · subst c
      rw [List.take_of_length_le (by omega)] at hs
      have HD : Hid (decide (ls.flatten.length ≤ R) = true) := decide_eq_true (by omega)
      clear hp hg hr hE
      go_wp2_with fail
      go_ret
      exact ⟨by rw [HD.out]; rfl, rfl⟩
    · obtain ⟨y, hy⟩ : ∃ y, vs[k]? = some y := ⟨vs[k], List.getElem?_eq_getElem (by omega)⟩
      obtain ⟨l, hl⟩ : ∃ l, ls[k]? = some l := ⟨ls[k], List.getElem?_eq_getElem (by omega)⟩
      obtain rfl := hp (by omega)
      have d := hr k y hy
      obtain ⟨q2, cap2, g2, off2, rfl, hc2, hm2, hp2, hg2, hr2⟩ := (hE k y l hy hl).open
      have hki : (k : Int) < (n : Int) := by omega
      have hkn : k < n := by omega
      have HF := flat_len ls k l hl
      have HM := flat_mono ls (k + 1)
      generalize hA : (ls.take k).flatten.length = A at *
      generalize hA2 : (ls.take (k + 1)).flatten.length = A2 at *
      generalize hn2 : l.length = n2 at *
      clear hr hp hg hy hE hl hr2 hp2 hg2
      by_cases c1 : r < n2
      · have HD : Hid (decide (ls.flatten.length ≤ R) = false) := decide_eq_false (by omega)
        have c1' : (r : Int) < (n2 : Int) := by omega
        go_wp2_with fail
        go_ret
        exact ⟨by rw [HD.out]; rfl, rfl⟩
      · have c1' : ¬ (r : Int) < (n2 : Int) := by omega
        go_wp2_with fail
        refine ⟨⟨k + 1, r - n2, by omega, rfl, ?_, by omega, trivial⟩, by simp only [intOf]; omega⟩
        congr 1
        omega
end Go.Proofs.Ytalbiggmmmkclaa
namespace Go.Proofs.Ytalbiggmmmkclaa
open Go.RowKit
set_option linter.unusedVariables false

theorem Sl.slice {W : World} {v : Value} {l : List Nat} (h : Sl W v l) : ∃ q n c, v = .slice q n c := by
  obtain ⟨q, cap, e, -⟩ := h
  exact ⟨q, _, cap, e⟩
/-- Bytes that stay whatever the tape does. -/
def Stb (b : Nat) (w : World) (v x : Value) (m : List Nat) : Prop := ∀ w' v', Mv b w w' v v' → Sl w' x m
def StL (b : Nat) (w : World) (v vp : Value) (vs : List Value) (ls : List (List Nat)) : Prop := ∀ w' v', Mv b w w' v v' → Ls w' vp vs ls
theorem Stb.sl {b : Nat} {w : World} {v x : Value} {m : List Nat} (h : Stb b w v x m) : Sl w x m := h _ _ (Mv.refl _ _ _)
theorem StL.ls {b : Nat} {w : World} {v vp : Value} {vs : List Value} {ls : List (List Nat)} (h : StL b w v vp vs ls) : Ls w vp vs ls := h _ _ (Mv.refl _ _ _)
theorem Stb.mv {b : Nat} {w w' : World} {v v' x : Value} {m : List Nat} (h : Stb b w v x m) (k : Mv b w w' v v') : Stb b w' v' x m := fun _ _ k' => h _ _ (k.trans k')
theorem StL.mv {b : Nat} {w w' : World} {v v' vp : Value} {vs : List Value} {ls : List (List Nat)} (h : StL b w v vp vs ls) (k : Mv b w w' v v') : StL b w' v' vp vs ls := fun _ _ k' => h _ _ (k.trans k')
theorem Stb.keep {b : Nat} {w w' : World} {v x : Value} {m : List Nat} (h : Stb b w v x m) (k : Below w.heap.size w w') : Stb b w' v x m := h.mv (mv_below v k)
/-- What lies in older memory. -/
theorem stb_old {W w : World} {base b : Nat} {v x : Value} {S : TS} {m : List Nat} (hT : Tp w base b v S) (hb : Below W.heap.size W w) (hW : W.heap.size ≤ base) (h : Sl W x m) : Stb b w v x m :=
  fun w' v' k => h.keep (hb.trans ((hT.below k).mono hW))
/-- What lies in another block. -/
theorem stb_far {w : World} {b : Nat} {v x : Value} {m : List Nat} (h : Sl w x m) (hf : ∀ g, x.ownBlock = some g → g ≠ b ∧ v.ownBlock ≠ some g) : Stb b w v x m := by
  intro w' v' k
  obtain ⟨q, cap, rfl, h1, h2, h3⟩ := h
  refine ⟨q, cap, rfl, h1, h2, fun h0 => ?_⟩
  obtain ⟨g, off, rfl, hg, hr⟩ := h3 h0
  obtain ⟨f1, f2⟩ := hf g rfl
  refine ⟨g, off, rfl, Nat.lt_of_lt_of_le hg k.size, fun j x hx => ?_⟩
  exact (World.cell?_of_block (w := w) (a := ⟨g, off + j, none⟩) (k.other g hg f1 f2)).trans (hr j x hx)
theorem stl_new {w w' : World} {base b n : Nat} {v : Value} {S : TS} (xs : List Value) (ls : List (List Nat)) (hT : Tp w base b v S) (hb : Below w.heap.size w w') (hB : Blk w' w.heap.size xs.toArray 39) (hn : xs.length = n) (hm : n ≤ maxLen) (hl : ls.length = n)
    (hE : ∀ (j : Nat) (x : Value) (l : List Nat), xs[j]? = some x → ls[j]? = some l → Stb b w v x l) : StL b w' v (.slice (some ⟨w.heap.size, 0, none⟩) n n) xs ls := by
  intro u v' k
  subst hn
  have hk := (mv_below v hb).trans k
  have h1 : w.heap.size ≠ b := by have := hT.blk.lt; omega
  have h2 : v.ownBlock ≠ some w.heap.size := fun e => by have := (hT.own.lt _ e).2; omega
  have hBu : Blk u w.heap.size xs.toArray 39 := by unfold Blk; rw [k.other _ hB.lt h1 h2]; exact hB
  refine ⟨hl.symm, ⟨_, _, rfl, Nat.le_refl _, hm, fun h0 => ⟨_, 0, rfl, hBu.lt, fun j x hx => ?_⟩⟩, fun j x l hx hl => hE j x l hx hl _ _ hk⟩
  rw [Nat.zero_add, hBu.cell j]
  simpa using hx
theorem eachS1 {b : Nat} {w : World} {v x : Value} {l : List Nat} (h : Stb b w v x l) : ∀ (j : Nat) (y : Value) (m : List Nat), [x][j]? = some y → [l][j]? = some m → Stb b w v y m := by
  intro j y m hx hm
  match j, hx, hm with
  | 0, hx, hm => simp at hx hm; subst hx; subst hm; exact h
theorem eachS2 {b : Nat} {w : World} {v x x2 : Value} {l l2 : List Nat} (h : Stb b w v x l) (h2 : Stb b w v x2 l2) : ∀ (j : Nat) (y : Value) (m : List Nat), [x, x2][j]? = some y → [l, l2][j]? = some m → Stb b w v y m := by
  intro j y m hx hm
  match j, hx, hm with
  | 0, hx, hm => simp at hx hm; subst hx; subst hm; exact h
  | 1, hx, hm => simp at hx hm; subst hx; subst hm; exact h2
theorem stS_l (S : TS) : (stS S).l = S.l ∧ (stS S).sure = S.sure := by
  unfold stS
  split
  · exact ⟨rfl, rfl⟩
  · split <;> exact ⟨rfl, rfl⟩
/-- Append's error, and the tape behind it. -/
def apN (S : TS) (k : Nat) : Nat := if S.l.length + k ≤ 1048576 then stN S else 7
def apS (S : TS) (m : List Nat) : TS := if S.l.length + m.length ≤ 1048576 then (if stN S = 0 then { stS S with l := S.l ++ m } else stS S) else S
/-- Bytes behind its bytes. -/
theorem Tp.more {W W' : World} {base b n : Nat} {v v' : Value} {S : TS} {m : List Nat} (h : Tp W base b v S) (hown : W'.ownsRow base 5 1 v' n (bys (S.l ++ m))) (hB : Blk W' b (tcs v' S) 76) (hm : S.l.length + m.length ≤ 1048576) : Tp W' base b v' { S with l := S.l ++ m } := by
  have e : n = (S.l ++ m).length := ((own_sl hown).1).symm
  subst e
  have := h.sure
  exact ⟨h.ge, hB, hown, by show S.sure ≤ (S.l ++ m).length; rw [List.length_append]; omega, by show (S.l ++ m).length ≤ _; rw [List.length_append]; omega, h.bo, h.br⟩
theorem ne_err (n : Int) (w : World) : (binOp .neq 33 (Err n) .nilIface).run Try.prog w = .ok (.bool true) w := by kernel_rfl
set_option maxHeartbeats 1000000 in
theorem append_any (base b : Nat) (v vp : Value) (vs : List Value) (ls : List (List Nat)) (S : TS) (w : World) (h : Tp w base b v S) (hst : S.steps < 4611686018427387904) (hL : StL b w v vp vs ls) :
    Calls Try.prog 48 #[tptr b, vp] w fun e w' => e = .returned (errV (apN S ls.flatten.length)) ∧ ∃ v', Tp w' base b v' (apS S ls.flatten) ∧ Mv b w w' v v' := by
  obtain ⟨q0, cap0, e0, hc0, hm0⟩ := h.form
  have c0 := h.oct.c0
  rw [e0] at c0
  have hmx := h.max
  by_cases hfit : S.l.length + ls.flatten.length ≤ 1048576
  · have hd : Hid (decide (ls.flatten.length ≤ 1048576 - S.l.length) = true) := decide_eq_true (by omega)
    have hN : Hid (apN S ls.flatten.length = stN S) := if_pos hfit
    have hS : Hid (apS S ls.flatten = if stN S = 0 then { stS S with l := S.l ++ ls.flatten } else stS S) := if_pos hfit
    obtain ⟨q, cap, g, off, ep, hc, hm, hp, hg, hr⟩ := hL.ls.open
    have hlen := hL.ls.len
    subst ep
    generalize hn : ls.length = n at *
    go_enter Try.func48, Try.ntmps48
    go_upto_region 4 with (first
      | (go_at_call 59; refine (room_any b _ _ _ _ c0 hmx).mono ?_; rintro e W1 ⟨rfl, hW1⟩; subst W1)
      | (go_at_call 58; refine (fit_any _ _ _ _ _ hL.ls (by omega)).mono ?_; rintro e W2 ⟨rfl, hW2⟩; subst W2; rw [hd.out])
      | (go_at_call 51; refine (step_any base b v S _ h hst).mono ?_; rintro e W3 ⟨rfl, h3, k3⟩))
    by_cases h0 : stN S = 0
    · rw [errV_ok h0]
      have hS2 : Hid (apS S ls.flatten = { stS S with l := S.l ++ ls.flatten }) := hS.out.trans (if_pos h0)
      have hN2 : Hid (apN S ls.flatten.length = 0) := hN.out.trans h0
      have mv3 := mv_chg v k3
      have hl3 := (stS_l S).1
      have HM : Hid (∀ k, (ls.take k).flatten.length ≤ ls.flatten.length) := flat_mono ls
      generalize hT : stS S = T at *
      clear hN hS h0 hd c0 k3 hst
      go_wp2_with fail
      go_loopw [21] (fun i wr => ∃ (k : Nat) (v' : Value), k ≤ n ∧ i = .int .i64 (k : Int) ∧ Tp wr base b v' { T with l := T.l ++ (ls.take k).flatten } ∧ Mv b w wr v v') (fun i _ => n - (intOf i).toNat)
      case atStart => exact ⟨0, v, by omega, rfl, by simpa using h3, mv3⟩
      case round =>
        clear h3 mv3
        obtain ⟨k, v1, hk, rfl, h3, mv3⟩ := hrel
        by_cases c : k = n
        · subst c
          rw [List.take_of_length_le (by omega)] at h3
          clear hp hg hr
          go_wp2_with fail
          go_ret
          exact ⟨by rw [hN2.out]; rfl, _, by rw [hS2.out, ← hl3]; exact h3, mv3⟩
        · obtain ⟨y, hy⟩ : ∃ y, vs[k]? = some y := ⟨vs[k], List.getElem?_eq_getElem (by omega)⟩
          obtain ⟨l, hl⟩ : ∃ l, ls[k]? = some l := ⟨ls[k], List.getElem?_eq_getElem (by omega)⟩
          have hLr := hL _ _ mv3
          obtain ⟨q', cap', g', off', ep', hc', hm', hp', hg', hr'⟩ := hLr.open
          rw [hn] at ep' hp'
          obtain rfl := hp (by omega)
          have hp'' := hp' (by omega)
          cases ep'
          cases hp''
          have d := hr' k y hy
          have hsx := hLr.each k y l hy hl
          obtain ⟨q2, cap2, ey, -⟩ := id hsx
          have c0 := h3.oct.c0
          have hki : (k : Int) < (n : Int) := by omega
          have hkn : k < n := by omega
          have HT : Hid ((ls.take (k + 1)).flatten = (ls.take k).flatten ++ l) := flat_take ls k l hl
          have HF := flat_len ls k l hl
          have HM1 := HM.out (k + 1)
          have hown : wr.ownsRow base 5 1 v1 (T.l ++ (ls.take k).flatten).length (bys (T.l ++ (ls.take k).flatten)) := h3.own
          have hLen : Hid ((T.l ++ (ls.take k).flatten).length + l.length ≤ 1048576) := by
            show _ ≤ _
            rw [List.length_append, hl3]
            omega
          have hlt := h3.lt
          subst ey
          clear hr hp hg hy hl hr' hp' hg' hLr
          generalize hn2 : l.length = n2 at *
          go_wp2_with (at_builtin; refine app_t base rfl rfl rfl hown rfl hsx hn2 (by have := hLen.out; omega) (by omega) ?_; intro v5 W5 hown5 hgr5 hat5; have hB5 := blk_grownT h3.blk hgr5 h3.apart; have c05 := hB5.at (i := 0) rfl; have f05 := hB5.frozen 0; obtain ⟨q5, n5, cap5, e5⟩ := (own_sl hown5).2.slice; subst e5)
          have hap := blk_own hown5 hB5 (by decide)
          generalize hv5 : Value.slice q5 n5 cap5 = v5 at *
          have hB6 := hB5.set 0 v5
          have k6 := chg_set W5 b 0 v5
          have hown6 := own_chgT hown5 k6 hap
          refine ⟨⟨k + 1, v5, by omega, rfl, ?_, mv3.trans ((mv_grown hgr5 hat5).trans (mv_chg v5 k6))⟩, by simp only [intOf]; omega⟩
          rw [HT.out, ← List.append_assoc]
          exact h3.more hown6 hB6 (by have := hLen.out; rw [hn2]; exact this)
    · have hz := errV_no h0
      rw [hz]
      have hS2 : Hid (apS S ls.flatten = stS S) := hS.out.trans (if_neg h0)
      have hne := ne_err ((stN S : Nat) : Int)
      generalize hX : ((stN S : Nat) : Int) = X at *
      clear hp hg hr
      go_wp2_with fail
      go_ret
      exact ⟨by rw [hN.out, hz]; rfl, _, by rw [hS2.out]; exact h3, mv_chg v k3⟩
  · have hd : Hid (decide (ls.flatten.length ≤ 1048576 - S.l.length) = false) := decide_eq_false (by omega)
    have hN : Hid (apN S ls.flatten.length = 7) := if_neg hfit
    have hS : Hid (apS S ls.flatten = S) := if_neg hfit
    go_enter Try.func48, Try.ntmps48
    go_wp2_with (first
      | (go_at_call 59; refine (room_any b _ _ _ _ c0 hmx).mono ?_; rintro e W1 ⟨rfl, hW1⟩; subst W1)
      | (go_at_call 58; refine (fit_any _ _ _ _ _ hL.ls (by omega)).mono ?_; rintro e W2 ⟨rfl, hW2⟩; subst W2; rw [hd.out]))
    go_ret
    exact ⟨by rw [hN.out]; rfl, _, by rw [hS.out]; exact h, Mv.refl _ _ _⟩
end Go.Proofs.Ytalbiggmmmkclaa
namespace Go.Proofs.Ytalbiggmmmkclaa
open Go.RowKit
set_option linter.unusedVariables false

def syS (S : TS) : TS := if stN S = 0 then { stS S with sure := S.l.length } else stS S
set_option maxHeartbeats 1000000 in
theorem sync_any (base b : Nat) (v : Value) (S : TS) (w : World) (h : Tp w base b v S) (hst : S.steps < 4611686018427387904) :
    Calls Try.prog 49 #[tptr b] w fun e w' => e = .returned (errV (stN S)) ∧ Tp w' base b v (syS S) ∧ Mv b w w' v v := by
  have hl3 := stS_l S
  go_enter Try.func49, Try.ntmps49
  go_upto_region 2 with (go_at_call 51; refine (step_any base b v S _ h hst).mono ?_; rintro e W3 ⟨rfl, h3, k3⟩)
  by_cases h0 : stN S = 0
  · have hz := errV_ok h0
    rw [hz]
    have hS2 : Hid (syS S = { stS S with sure := S.l.length }) := if_pos h0
    obtain ⟨q0, cap0, e0, hc0, hm0⟩ := h3.form
    have c0 := h3.oct.c0
    have c1 := h3.oct.c1
    have f1 := h3.frozen 1
    have HB : Hid (Blk (W3.setCell ⟨b, 1, none⟩ (.int .i64 ((S.l.length : Nat) : Int))) b (tcs v { stS S with sure := S.l.length }) 76) := h3.blk.set 1 (.int .i64 ((S.l.length : Nat) : Int))
    have k4 := chg_set W3 b 1 (.int .i64 ((S.l.length : Nat) : Int))
    rw [e0, hl3.1] at c0
    have HZ : Hid (errV (stN S) = .nilIface) := hz
    clear hz h0 e0 hc0
    generalize hn : S.l.length = n at *
    go_wp2_with fail
    go_ret
    refine ⟨by rw [HZ.out]; rfl, ?_, mv_chg v (k3.trans k4)⟩
    rw [hS2.out]
    exact h3.chg HB.out k4 rfl (by show n ≤ _; rw [hl3.1]; omega) h3.bo h3.br
  · have hz := errV_no h0
    rw [hz]
    have hS2 : Hid (syS S = stS S) := if_neg h0
    have hne := ne_err ((stN S : Nat) : Int)
    generalize hX : ((stN S : Nat) : Int) = X at *
    go_wp2_with fail
    go_ret
    exact ⟨by rw [hz]; rfl, by rw [hS2.out]; exact h3, mv_chg v k3⟩
theorem arm_no (b : Nat) (n : Int) (w : World) (hn : n < 0) :
    Calls Try.prog 23 #[tptr b, .int .i64 n] w fun e w' => e = .returned (Err 1) ∧ w' = w := by
  go_enter Try.func23, Try.ntmps23
  go_wp2_with fail
  go_ret
  exact ⟨rfl, rfl⟩
theorem fail_no (b : Nat) (n : Int) (w : World) (hn : n < 0) :
    Calls Try.prog 24 #[tptr b, .int .i64 n] w fun e w' => e = .returned (Err 1) ∧ w' = w := by
  go_enter Try.func24, Try.ntmps24
  go_wp2_with fail
  go_ret
  exact ⟨rfl, rfl⟩
theorem arm_ok (base b : Nat) (v : Value) (S : TS) (n : Nat) (w : World) (h : Tp w base b v S) (hn : n ≤ 9223372036854775807) :
    Calls Try.prog 23 #[tptr b, .int .i64 ((n : Nat) : Int)] w fun e w' => e = .returned .nilIface ∧ Tp w' base b v { S with os := true, oa := n } ∧ Mv b w w' v v := by
  have c3 := h.oct.c3
  have c4 := h.oct.c4
  have f3 := h.frozen 3
  have f4 := h.frozen 4
  go_enter Try.func23, Try.ntmps23
  go_wp2_with fail
  go_ret
  exact ⟨rfl, h.chg ((h.blk.set 3 _).set 4 _) ((chg_set _ _ _ _).trans (chg_set _ _ _ _)) rfl h.sure hn h.br, mv_chg v ((chg_set _ _ _ _).trans (chg_set _ _ _ _))⟩
theorem fail_ok (base b : Nat) (v : Value) (S : TS) (n : Nat) (w : World) (h : Tp w base b v S) (hn : n ≤ 9223372036854775807) :
    Calls Try.prog 24 #[tptr b, .int .i64 ((n : Nat) : Int)] w fun e w' => e = .returned .nilIface ∧ Tp w' base b v { S with rs := true, ra := n } ∧ Mv b w w' v v := by
  have c3 := h.oct.c5
  have c4 := h.oct.c6
  have f3 := h.frozen 5
  have f4 := h.frozen 6
  go_enter Try.func24, Try.ntmps24
  go_wp2_with fail
  go_ret
  exact ⟨rfl, h.chg ((h.blk.set 5 _).set 6 _) ((chg_set _ _ _ _).trans (chg_set _ _ _ _)) rfl h.sure h.bo hn, mv_chg v ((chg_set _ _ _ _).trans (chg_set _ _ _ _))⟩
/-- Replace's error, and the tape behind it. -/
def rpN (S : TS) (k : Nat) : Nat := if k ≤ 1048576 then stN S else 7
def rpS (S : TS) (m : List Nat) : TS := if m.length ≤ 1048576 then (if stN S = 0 then { stS S with l := m, sure := m.length } else stS S) else S
theorem mv_new {b : Nat} {w w' : World} {v v' : Value} (h : Below w.heap.size w w') (hn : ∀ r, v'.ownBlock = some r → w.heap.size ≤ r) : Mv b w w' v v' := ⟨h.os, h.tape, h.output, h.size, fun k hk _ _ => h.block k hk, fun r hr => .inr (hn r hr)⟩
set_option maxHeartbeats 1000000 in
theorem replace_any (base b : Nat) (v vx : Value) (m : List Nat) (S : TS) (w : World) (h : Tp w base b v S) (hst : S.steps < 4611686018427387904) (hx : Stb b w v vx m) :
    Calls Try.prog 37 #[tptr b, vx] w fun e w' => e = .returned (errV (rpN S m.length)) ∧ ∃ v', Tp w' base b v' (rpS S m) ∧ Mv b w w' v v' := by
  obtain ⟨qx, capx, gx, offx, ex, hcx, hmx, -⟩ := hx.sl.open
  subst ex
  by_cases hfit : m.length ≤ 1048576
  · have hN : Hid (rpN S m.length = stN S) := if_pos hfit
    have hS : Hid (rpS S m = if stN S = 0 then { stS S with l := m, sure := m.length } else stS S) := if_pos hfit
    generalize hn : m.length = n at *
    have hfi : ¬ (1048576 : Int) < (n : Int) := by omega
    go_enter Try.func37, Try.ntmps37
    go_upto_region 4 with (go_at_call 51; refine (step_any base b v S _ h hst).mono ?_; rintro e W3 ⟨rfl, h3, k3⟩)
    by_cases h0 : stN S = 0
    · have hz := errV_ok h0
      rw [hz]
      have hS2 : Hid (rpS S m = { stS S with l := m, sure := n }) := hS.out.trans (if_pos h0)
      have hx3 := hx.mv (mv_chg v k3)
      go_wp2_with (go_at_call 47; refine (clone_big _ _ _ hx3.sl (by omega)).mono ?_; rintro e W4 ⟨v4, rfl, hown4, b4⟩; obtain ⟨q4, n4, cap4, e4⟩ := (own_sl hown4).2.slice; subst e4; have h4 := h3.keep b4; have c0 := h4.oct.c0; have c1 := h4.oct.c1; have f0 := h4.frozen 0; have f1 := h4.frozen 1)
      go_ret
      generalize hv4 : Value.slice q4 n4 cap4 = v4 at *
      have hlt := h3.lt
      have hown5 := own_less hown4 (Nat.le_of_lt hlt)
      have hap : v4.ownBlock ≠ some b := blk_own hown5 h4.blk (by decide)
      have hB5 := (h4.blk.set 0 v4).set 1 (.int .i64 ((n : Nat) : Int))
      have k5 : Chg b W4 _ := (chg_set W4 b 0 v4).trans (chg_set _ b 1 (.int .i64 ((n : Nat) : Int)))
      refine ⟨by rw [hN.out, hz]; rfl, v4, ?_, (mv_chg v k3).trans ((mv_new b4 (fun r hr => (hown4.lt r hr).1)).trans (mv_chg v4 k5))⟩
      rw [hS2.out]
      exact ⟨h.ge, hB5, own_chgT hown5 k5 hap, by show n ≤ m.length; omega, by show m.length ≤ _; omega, h3.bo, h3.br⟩
    · have hz := errV_no h0
      rw [hz]
      have hS2 : Hid (rpS S m = stS S) := hS.out.trans (if_neg h0)
      have hne := ne_err ((stN S : Nat) : Int)
      generalize hX : ((stN S : Nat) : Int) = X at *
      go_wp2_with fail
      go_ret
      exact ⟨by rw [hN.out, hz]; rfl, _, by rw [hS2.out]; exact h3, mv_chg v k3⟩
  · have hN : Hid (rpN S m.length = 7) := if_neg hfit
    have hS : Hid (rpS S m = S) := if_neg hfit
    have hfi : (1048576 : Int) < (m.length : Int) := by omega
    generalize hn : m.length = n at *
    go_enter Try.func37, Try.ntmps37
    go_wp2_with fail
    go_ret
    exact ⟨by rw [hN.out]; rfl, _, by rw [hS.out]; exact h, Mv.refl _ _ _⟩
end Go.Proofs.Ytalbiggmmmkclaa
namespace Go.Proofs.Ytalbiggmmmkclaa
set_option linter.unusedVariables false

section
variable {P : Program} {ops : Array Oper} {Q : Exit → Act → World → Prop} {md : Region.Mode} {S : World → Prop} {z : Nat}
/-- Operation k waits for i. -/
def waits (md : Region.Mode) (ops : Array Oper) (k i : Nat) : Bool := match ops[k]? with
  | some o => o.after.any fun e => Region.binds md e && e.on == i
  | none => false
/-- A chain of operations that have not come up, each of which waits for the one ahead of it, the first for i. -/
def chainB (md : Region.Mode) (ops : Array Oper) (l : Array Bool) : Nat → List Nat → Bool
  | _, [] => true
  | i, k :: r => waits md ops k i && (!(l.getD k true)) && chainB md ops l k r
theorem chain_away {l : Array Bool} {j : Nat} (hj : j ∈ Region.ready md ops l) : ∀ (c : List Nat) (i : Nat), l.getD i true = false → chainB md ops l i c = true → j ∉ c
  | [], _, _, _ => by simp
  | k :: r, i, hi, h => by
    simp only [chainB, Bool.and_eq_true, Bool.not_eq_true'] at h
    obtain ⟨⟨hw, hk⟩, hr⟩ := h
    intro hm
    rcases List.mem_cons.1 hm with rfl | hm
    · obtain ⟨_, oj, hoj, hall⟩ := mem_ready.1 hj
      unfold waits at hw
      rw [hoj] at hw
      simp only [Array.any_eq_true', Bool.and_eq_true, beq_iff_eq] at hw
      obtain ⟨e, he, hb, hon⟩ := hw
      have x1 := hall e he hb
      rw [hon] at x1
      rcases Nat.lt_or_ge i l.size with h' | h'
      · simp [h'] at hi x1; rw [hi] at x1; cases x1
      · simp [Array.getElem?_eq_none h'] at x1
    · exact chain_away hj r k hk hr hm
theorem chain_set {l : Array Bool} {j : Nat} : ∀ (c : List Nat) (i : Nat), j ∉ c → chainB md ops l i c = true → chainB md ops (l.setIfInBounds j true) i c = true
  | [], _, _, _ => rfl
  | k :: r, i, hj, h => by
    simp only [chainB, Bool.and_eq_true, Bool.not_eq_true'] at h ⊢
    obtain ⟨⟨hw, hk⟩, hr⟩ := h
    simp only [List.mem_cons, not_or] at hj
    exact ⟨⟨hw, by rw [getD_set_ne true hj.1]; exact hk⟩, chain_set r k hj.2 hr⟩
theorem chain_un {l : Array Bool} : ∀ (c : List Nat) (i : Nat), chainB md ops l i c = true → ∀ k ∈ c, l.getD k true = false
  | [], _, _, _, hk => by simp at hk
  | k :: r, i, h, m, hm => by
    simp only [chainB, Bool.and_eq_true, Bool.not_eq_true'] at h
    rcases List.mem_cons.1 hm with rfl | hm
    · exact h.1.2
    · exact chain_un r k h.2 m hm
/-- In any order from here on; S holds behind each operation while z has not come up. -/
def anyL (P : Program) (md : Region.Mode) (ops : Array Oper) (Q : Exit → Act → World → Prop) (S : World → Prop) (z : Nat) : Nat → Array Bool → Act → World → Prop
  | 0, l, a, w => Region.ready md ops l = [] ∧ Q .normal a w
  | n + 1, l, a, w => (Region.ready md ops l = [] → Q .normal a w) ∧
    ∀ i ∈ Region.ready md ops l, wpOp P ops Q i (fun a' w' => ((l.setIfInBounds i true).getD z true = false → S w') ∧ anyL P md ops Q S z n (l.setIfInBounds i true) a' w') a w
theorem anyL_any : ∀ (n : Nat) (l : Array Bool) (a : Act) (w : World), anyL P md ops Q S z n l a w → wpAny P md ops Q n l a w
  | 0, _, _, _, h => h
  | n + 1, _, _, _, h => ⟨h.1, fun i hi => wpOp_mono (fun a' w' h' => anyL_any n _ a' w' h'.2) (h.2 i hi)⟩
theorem region_L (z : Nat) {id : Nat} {a : Act} {w : World} (hm : P.follows .mixedOrders = true) (hS : S w.drew)
    (h : S w.drew → anyL P .any ops Q S z ops.size (Array.replicate ops.size false) a w.drew) : (Code.region id ops true).wp P Q a w :=
  wp_region_any hm (anyL_any _ _ _ _ (h hS))
theorem anyL_done {n : Nat} {l : Array Bool} {a : Act} {w : World} (hr : Region.ready md ops l = []) (h : Q .normal a w) : anyL P md ops Q S z n l a w := by
  cases n with
  | zero => exact ⟨hr, h⟩
  | succ n => exact ⟨fun _ => h, fun i hi => by rw [hr] at hi; cases hi⟩
theorem anyL_first {i : Nat} {oi : Oper} {v : Value} (c : List Nat) (hz : z ∈ c) (hi : ops[i]? = some oi) (hsel : ∀ (j : Nat) (o : Oper) cs b, ops[j]? = some o → o.op ≠ .select cs b)
    (hQ : ∀ c a w, Q (.panic c) (a.put oi.dst v) w → Q (.panic c) a w) : ∀ (n : Nat) (l : Array Bool) (a : Act) (w : World), chainB md ops l i c = true →
      (∀ j oj, ops[j]? = some oj → j ≠ i → l.getD j true = false → (∀ e ∈ oj.after, Region.binds md e = true → e.on ≠ i) → oi.apart ops oj = true) →
      i ∈ Region.ready md ops l → YieldsIf P ops S oi v a → S w → anyL P md ops Q S z n (l.setIfInBounds i true) (a.put oi.dst v) w → anyL P md ops Q S z (n + 1) l a w
  | 0, l, a, w, _, _, hr, hy, hS, H => by
    refine ⟨fun h => (by rw [h] at hr; cases hr), fun j hj => ?_⟩
    by_cases hji : j = i
    · subst hji; exact hy.wpOp hi hS ⟨fun _ => hS, H⟩
    · have hm := ready_mono hj hji
      rw [H.1] at hm
      cases hm
  | n + 1, l, a, w, hc, hfree, hr, hy, hS, H => by
    refine ⟨fun h => (by rw [h] at hr; cases hr), fun j hj => ?_⟩
    by_cases hji : j = i
    · subst hji; exact hy.wpOp hi hS ⟨fun _ => hS, H⟩
    · have h1 := H.2 j (ready_mono hj hji)
      obtain ⟨hun, oj, hoj, hall⟩ := mem_ready.1 hj
      have hiu := (mem_ready.1 hr).1
      have hjc := chain_away hj c i hiu hc
      have hc' := chain_set c i hjc hc
      have hno : ∀ e ∈ oj.after, Region.binds md e = true → e.on ≠ i := fun e he hb heq => by
        have x1 := hall e he hb
        rw [heq] at x1
        rcases Nat.lt_or_ge i l.size with h' | h'
        · simp [h'] at hiu x1; rw [hiu] at x1; cases x1
        · simp [Array.getElem?_eq_none h'] at x1
      have h2 := wpOp_putIf hoj (hfree j oj hoj hji hun hno) (fun cs b => hsel i oi cs b hi) (fun cs b => hsel j oj cs b hoj) hQ hy h1
      have hfree' : ∀ k ok, ops[k]? = some ok → k ≠ i → (l.setIfInBounds j true).getD k true = false → (∀ e ∈ ok.after, Region.binds md e = true → e.on ≠ i) → oi.apart ops ok = true := fun k ok hk hki hu hn => by
        refine hfree k ok hk hki ?_ hn
        by_cases hjk : j = k
        · subst hjk; exact hun
        · rw [getD_set_ne true hjk] at hu; exact hu
      have hzi : z ≠ i := fun e => by
        subst e
        exact chain_away hr c z hiu hc hz
      refine wpOp_mono (fun a' w' h3 => ?_) h2
      obtain ⟨y3, s3, k3⟩ := h3
      have s4 : S w' := s3 (by rw [Array.setIfInBounds_comm _ _ (Ne.symm hji), getD_set_ne true (Ne.symm hzi)]; exact chain_un c i hc' z hz)
      refine ⟨fun _ => s4, anyL_first c hz hi hsel hQ n _ a' w' hc' hfree' (ready_mono hr (Ne.symm hji)) y3 s4 ?_⟩
      rw [Array.setIfInBounds_comm _ _ hji]
      exact k3
/-- An operation that yields is taken first; where its value goes is said; c: the chain from it to z. -/
theorem takeL {i : Nat} {oi : Oper} {v : Value} {n : Nat} {l : Array Bool} {a : Act} {w : World} (c : List Nat) (d : Option Tmp) (hz : c.contains z = true) (hi : ops[i]? = some oi) (hd : oi.dst = d)
    (hc : chainB md ops l i c = true) (hs : Region.noSelect ops = true) (hf : Region.free md ops l i = true) (hr : (Region.ready md ops l).contains i = true)
    (hQ : ∀ c a w, Q (.panic c) (a.put d v) w → Q (.panic c) a w) (hw : Region.wanted oi (yielded ops a.tmps) = true) (hy : ∀ w, S w → (execOp a.eval oi).run P w = .ok (.value v) w) (hS : S w)
    (h : anyL P md ops Q S z n (l.setIfInBounds i true) (a.put d v) w) : anyL P md ops Q S z (n + 1) l a w := by
  subst hd
  exact anyL_first c (by simpa using hz) hi (Region.noSelect_spec hs) hQ n l a w hc (Region.free_spec hi hf) (by simpa using hr) (Or.inl ⟨hw, hy⟩) hS h
/-- Each of the operations rs comes up next. -/
def AllL (P : Program) (md : Region.Mode) (ops : Array Oper) (Q : Exit → Act → World → Prop) (S : World → Prop) (z : Nat) (n : Nat) (l : Array Bool) (a : Act) (w : World) (rs : List Nat) : Prop :=
  ∀ i ∈ rs, wpOp P ops Q i (fun a' w' => ((l.setIfInBounds i true).getD z true = false → S w') ∧ anyL P md ops Q S z n (l.setIfInBounds i true) a' w') a w
theorem AllL.nil {n : Nat} {l : Array Bool} {a : Act} {w : World} : AllL P md ops Q S z n l a w [] := fun _ h => by cases h
theorem AllL.cons {n : Nat} {l : Array Bool} {a : Act} {w : World} {i : Nat} {o : Oper} {rs : List Nat} (ho : ops[i]? = some o)
    (h : ∀ K : Act → World → Prop, Shut (∀ a w, S w → (S w → anyL P md ops Q S z n (l.setIfInBounds i true) a w) → K a w) → if Region.wanted o (yielded ops a.tmps) = true then Oper.wp P o a w K Q else K (a.put o.dst undef) w)
    (hs : AllL P md ops Q S z n l a w rs) : AllL P md ops Q S z n l a w (i :: rs) := fun j hj => by
  rcases List.mem_cons.1 hj with rfl | hj
  · exact wpOp_step ho (fun K hK => h K (fun a w hS hW => hK a w ⟨fun _ => hS, hW hS⟩))
  · exact hs j hj
/-- z itself. -/
theorem AllL.last {n : Nat} {l : Array Bool} {a : Act} {w : World} {o : Oper} (ho : ops[z]? = some o) (hl : (l.setIfInBounds z true).getD z true = true)
    (h : ∀ K : Act → World → Prop, Shut (∀ a w, anyL P md ops Q S z n (l.setIfInBounds z true) a w → K a w) → if Region.wanted o (yielded ops a.tmps) = true then Oper.wp P o a w K Q else K (a.put o.dst undef) w) : AllL P md ops Q S z n l a w [z] := fun j hj => by
  have : j = z := by simpa using hj
  subst this
  exact wpOp_step ho (fun K hK => h K (fun a w hW => hK a w ⟨fun h0 => (by rw [hl] at h0; cases h0), hW⟩))
theorem anyL_ready {rs : List Nat} {n : Nat} {l : Array Bool} {a : Act} {w : World} (hr : Region.ready md ops l = rs) (hne : rs ≠ []) (h : AllL P md ops Q S z n l a w rs) : anyL P md ops Q S z (n + 1) l a w :=
  ⟨fun h0 => absurd (hr ▸ h0) hne, hr ▸ h⟩
end
end Go.Proofs.Ytalbiggmmmkclaa
