/-
  tape's Cut and Crash.
  A tape that is up and not armed: its calls in short; a nil tape; alive.
  estuarylaw06.alive.
-/
import Derived.Test.YteffpgodookebaaGreatPk40
import Derived.Test.YteffpgodookebaaGreatPk06
namespace Go.Proofs.YteffpgodookebaaGreat
set_option maxRecDepth 100000
open Go.RowKit
set_option linter.unusedVariables false

/-- 'b[:j]' of an own slice. -/
theorem cut_own {w : World} {base n cap j : Nat} {q : Option Addr} {l : List Nat} (h : w.ownsRow base 5 1 (.slice q n cap) n (bys l)) (hj : j ≤ n) :
    sliced q 0 j cap 1 = .slice q j cap ∧ w.ownsRow base 5 1 (.slice q j cap) j (bys (l.take j)) ∧ j ≤ cap ∧ (l.take j).length = j := by
  have hl := (own_sl h).1
  obtain ⟨h1, h2⟩ := h
  rcases h2 with ⟨h2, h3⟩ | ⟨g', cap', cur, e, hb, hg, hnc, hcm, hcs, ht⟩
  · cases h2
    obtain rfl : j = 0 := by omega
    exact ⟨rfl, World.ownsRow_nil _ _ _ _, Nat.le_refl _, by simp⟩
  · cases e
    refine ⟨by unfold sliced; simp [Addr.add], ⟨by rw [bys_len, List.length_take]; omega, .inr ⟨g', cap, cur, rfl, hb, hg, by omega, hcm, hcs, ?_⟩⟩, by omega, by rw [List.length_take]; omega⟩
    have e2 : bys (l.take j) = (bys l).take j := by simp [bys, List.map_take]
    rw [e2, ← ht, List.take_take]
    congr 1
    omega
theorem Tp.cut {W : World} {base b n cap j : Nat} {q : Option Addr} {S : TS} (h : Tp W base b (.slice q n cap) S) (hn : S.l.length = n) (hj : S.sure ≤ j) (hjn : j ≤ n) : Tp (W.setCell ⟨b, 0, none⟩ (.slice q j cap)) base b (.slice q j cap) { S with l := S.l.take j } := by
  have hown := h.own
  rw [hn] at hown
  obtain ⟨-, o1, o2, o3⟩ := cut_own hown hjn
  have hap := h.apart
  have hmx := h.max
  have k := chg_set W b 0 (.slice q j cap)
  refine ⟨h.ge, h.blk.set 0 _, ?_, by show S.sure ≤ (S.l.take j).length; omega, by show (S.l.take j).length ≤ _; omega, h.bo, h.br⟩
  show (W.setCell ⟨b, 0, none⟩ (.slice q j cap)).ownsRow base 5 1 (.slice q j cap) (S.l.take j).length (bys (S.l.take j))
  rw [o3]
  refine own_chgT o1 k ?_
  intro e
  apply hap
  cases q with
  | none => cases e
  | some a => exact e
theorem mv_same {b : Nat} {w w' : World} {q : Option Addr} {n cap n' cap' : Nat} (h : Chg b w w') : Mv b w w' (.slice q n cap) (.slice q n' cap') :=
  ⟨h.os, h.tape, h.output, Nat.le_of_eq h.size.symm, fun k _ hk _ => h.other k hk, fun r hr => .inl (by cases q with
    | none => cases hr
    | some a => exact hr)⟩
def ctS (S : TS) : TS := if S.down then S else { S with l := S.l.take S.sure }
set_option maxHeartbeats 1000000 in
theorem cut_any (base b : Nat) (v : Value) (S : TS) (w : World) (h : Tp w base b v S) :
    Calls Tryz.prog 151 #[tptr b] w fun e w' => e = .returned (.tuple #[]) ∧ ∃ v', Tp w' base b v' (ctS S) ∧ Mv b w w' v v' := by
  have hc7 := h.oct.c7
  by_cases hd : S.down = true
  · have hS : Hid (ctS S = S) := if_pos hd
    rw [hd] at hc7
    go_enter Tryz.func151, Tryz.ntmps151
    go_wp2_with (go_at_call 88; refine (down_any b _ _ hc7).mono ?_; rintro e W1 ⟨rfl, hW1⟩; subst W1)
    refine bodyPost_ret (results_none rfl _ _ _) rfl ?_
    exact ⟨rfl, _, by rw [hS.out]; exact h, Mv.refl _ _ _⟩
  · have hS : Hid (ctS S = { S with l := S.l.take S.sure }) := if_neg hd
    have hd' : S.down = false := by simpa using hd
    rw [hd'] at hc7
    clear hd hd'
    obtain ⟨q, cap, e, hc, hm⟩ := h.form
    subst e
    go_enter Tryz.func151, Tryz.ntmps151
    go_upto_region 1 with (go_at_call 88; refine (down_any b _ _ hc7).mono ?_; rintro e W1 ⟨rfl, hW1⟩; subst W1)
    have h2 := h.keep (W' := w.drew) (Below.refl _ _).drew
    have mv2 : Mv b w w.drew (.slice q S.l.length cap) (.slice q S.l.length cap) := mv_below _ (Below.refl _ _).drew
    have hsl := h.sure
    generalize hn : S.l.length = n at *
    have hown : w.drew.ownsRow base 5 1 (.slice q n cap) n (bys S.l) := by have := h2.own; rwa [hn] at this
    have c0 := h2.oct.c0
    have c1 := h2.oct.c1
    have f0 := h2.frozen 0
    have hco := (cut_own hown hsl).1
    have hjc := (cut_own hown hsl).2.2.1
    refine region_L 12 (S := fun w' => w' = w.drew) (by kernel_rfl) rfl (fun hHeld => ?_)
    generalize w.drew = V at *
    refine takeL (i := 0) [10, 11, 12] (some 4) (by rfl) rfl rfl (by kernel_rfl) (by kernel_rfl) (by kernel_rfl) (by kernel_rfl) (fun _ _ _ h => h) (by rfl) (fun w hSw => by (try dsimp only at hSw); go_simp; try rfl) hHeld ?_
    go_frame
    refine takeL (i := 1) [2, 3, 4, 9, 12] (some 5) (by rfl) rfl rfl (by kernel_rfl) (by kernel_rfl) (by kernel_rfl) (by kernel_rfl) (fun _ _ _ h => h) (by rfl) (fun w hSw => by (try dsimp only at hSw); go_simp; try rfl) hHeld ?_
    go_frame
    refine takeL (i := 2) [3, 4, 9, 12] (some 6) (by rfl) rfl rfl (by kernel_rfl) (by kernel_rfl) (by kernel_rfl) (by kernel_rfl) (fun _ _ _ h => h) (by rfl) (fun w hSw => by (try dsimp only at hSw); go_simp; try rfl) hHeld ?_
    go_frame
    refine takeL (i := 3) [4, 9, 12] (some 7) (by rfl) rfl rfl (by kernel_rfl) (by kernel_rfl) (by kernel_rfl) (by kernel_rfl) (fun _ _ _ h => h) (by rfl) (fun w hSw => by (try dsimp only at hSw); go_simp; try rfl) hHeld ?_
    go_frame
    refine takeL (i := 4) [9, 12] (some 8) (by rfl) rfl rfl (by kernel_rfl) (by kernel_rfl) (by kernel_rfl) (by kernel_rfl) (fun _ _ _ h => h) (by rfl) (fun w hSw => by (try dsimp only at hSw); (subst hSw; go_simp; try rfl)) hHeld ?_
    go_frame
    refine takeL (i := 5) [6, 7, 8, 9, 12] (some 9) (by rfl) rfl rfl (by kernel_rfl) (by kernel_rfl) (by kernel_rfl) (by kernel_rfl) (fun _ _ _ h => h) (by rfl) (fun w hSw => by (try dsimp only at hSw); go_simp; try rfl) hHeld ?_
    go_frame
    refine takeL (i := 6) [7, 8, 9, 12] (some 10) (by rfl) rfl rfl (by kernel_rfl) (by kernel_rfl) (by kernel_rfl) (by kernel_rfl) (fun _ _ _ h => h) (by rfl) (fun w hSw => by (try dsimp only at hSw); go_simp; try rfl) hHeld ?_
    go_frame
    refine takeL (i := 7) [8, 9, 12] (some 11) (by rfl) rfl rfl (by kernel_rfl) (by kernel_rfl) (by kernel_rfl) (by kernel_rfl) (fun _ _ _ h => h) (by rfl) (fun w hSw => by (try dsimp only at hSw); go_simp; try rfl) hHeld ?_
    go_frame
    refine takeL (i := 8) [9, 12] (some 12) (by rfl) rfl rfl (by kernel_rfl) (by kernel_rfl) (by kernel_rfl) (by kernel_rfl) (fun _ _ _ h => h) (by rfl) (fun w hSw => by (try dsimp only at hSw); (subst hSw; go_simp; try rfl)) hHeld ?_
    go_frame
    refine takeL (i := 9) [12] (some 13) (by rfl) rfl rfl (by kernel_rfl) (by kernel_rfl) (by kernel_rfl) (by kernel_rfl) (fun _ _ _ h => h) (by rfl) (fun w hSw => by (try dsimp only at hSw); exact slb_h_run rfl rfl rfl rfl hjc) hHeld ?_
    go_frame
    rw [hco]
    refine takeL (i := 10) [11, 12] (some 14) (by rfl) rfl rfl (by kernel_rfl) (by kernel_rfl) (by kernel_rfl) (by kernel_rfl) (fun _ _ _ h => h) (by rfl) (fun w hSw => by (try dsimp only at hSw); go_simp; try rfl) hHeld ?_
    go_frame
    refine takeL (i := 11) [12] (some 15) (by rfl) rfl rfl (by kernel_rfl) (by kernel_rfl) (by kernel_rfl) (by kernel_rfl) (fun _ _ _ h => h) (by rfl) (fun w hSw => by (try dsimp only at hSw); go_simp; try rfl) hHeld ?_
    go_frame
    refine anyL_ready (rs := [12]) (by kernel_rfl) (by simp) (AllL.last rfl (by kernel_rfl) (fun K hK => ?_))
    go_simp
    refine hK.out _ _ ?_
    clear hK K
    refine anyL_done (by kernel_rfl) ?_
    go_end0
    rw [hn]
    refine ⟨rfl, .slice q S.sure cap, ?_, mv2.trans (mv_same (chg_set _ _ 0 _))⟩
    rw [hS.out]
    exact h2.cut hn (Nat.le_refl _) hsl
/-- How many bytes more stay; the tape behind a crash. -/
def kp (S : TS) (k : Int) : Nat := min k.toNat (S.l.length - S.sure)
def crS (S : TS) (k : Int) : TS := ⟨S.l.take (S.sure + kp S k), S.sure + kp S k, S.steps, false, 0, false, 0, false⟩
set_option maxHeartbeats 1000000 in
theorem crash_any (base b : Nat) (v : Value) (S : TS) (k : Int) (w : World) (h : Tp w base b v S) (hk : -9223372036854775808 ≤ k ∧ k ≤ 9223372036854775807) :
    Calls Tryz.prog 25 #[tptr b, .int .i64 k] w fun e w' => e = .returned (.tuple #[]) ∧ ∃ v', Tp w' base b v' (crS S k) ∧ Mv b w w' v v' := by
  obtain ⟨q, cap, e, hc, hm⟩ := h.form
  subst e
  have c0 := h.oct.c0
  have c1 := h.oct.c1
  have hsl := h.sure
  have hmx := h.max
  obtain ⟨M, hM⟩ : ∃ M, kp S k = M := ⟨_, rfl⟩
  have hM1 : M ≤ S.l.length - S.sure := by rw [← hM]; unfold kp; omega
  have hS : Hid (crS S k = ⟨S.l.take (S.sure + M), S.sure + M, S.steps, false, 0, false, 0, false⟩) := by show _ = _; unfold crS; rw [hM]
  have hKi : (if (S.l.length : Int) - (S.sure : Int) < (if k < 0 then 0 else k) then (S.l.length : Int) - (S.sure : Int) else (if k < 0 then 0 else k)) = ((M : Nat) : Int) := by
    rw [← hM]; unfold kp
    split <;> split at * <;> omega
  clear hM
  generalize hn : S.l.length = n at *
  generalize hs : S.sure = s at *
  go_enter Tryz.func25, Tryz.ntmps25
  go_upto_region 1 with fail
  go_quiet (fail)
  clear hKi
  generalize (if k < 0 then (0 : Int) else k) = y
  have b2 : Below w.heap.size w (w.drewN nq).drew := (below_drewN (Below.refl _ _) nq).drew
  go_upto_region 2 with fail
  have h2 := h.keep b2
  have mv2 : Mv b w (w.drewN nq).drew (.slice q n cap) (.slice q n cap) := mv_below _ b2
  refine region_L 14 (S := fun w' => w' = (w.drewN nq).drew) (by kernel_rfl) rfl (fun hHeld => ?_)
  clear b2 c0 c1
  generalize (w.drewN nq).drew = V at *
  have hown : V.ownsRow base 5 1 (.slice q n cap) n (bys S.l) := by have := h2.own; rwa [hn] at this
  have hjn : s + M ≤ n := by omega
  have hco := (cut_own hown hjn).1
  have hjc := (cut_own hown hjn).2.2.1
  have hlen := (cut_own hown hjn).2.2.2
  have c0 := h2.oct.c0
  have c1 := h2.oct.c1
  rw [hs] at c1
  have f0 := h2.frozen 0
  have x1 : IntKind.i64.wrap ((s : Int) + (M : Int)) = (s : Int) + (M : Int) := by simp [IntKind.wrap, IntKind.signed, IntKind.bits] <;> omega
  refine takeL (i := 0) [12, 13, 14] (some 19) (by rfl) rfl rfl (by kernel_rfl) (by kernel_rfl) (by kernel_rfl) (by kernel_rfl) (fun _ _ _ h => h) (by rfl) (fun w hSw => by (try dsimp only at hSw); go_simp; try rfl) hHeld ?_
  go_frame
  refine takeL (i := 1) [2, 3, 4, 11, 14] (some 20) (by rfl) rfl rfl (by kernel_rfl) (by kernel_rfl) (by kernel_rfl) (by kernel_rfl) (fun _ _ _ h => h) (by rfl) (fun w hSw => by (try dsimp only at hSw); go_simp; try rfl) hHeld ?_
  go_frame
  refine takeL (i := 2) [3, 4, 11, 14] (some 21) (by rfl) rfl rfl (by kernel_rfl) (by kernel_rfl) (by kernel_rfl) (by kernel_rfl) (fun _ _ _ h => h) (by rfl) (fun w hSw => by (try dsimp only at hSw); go_simp; try rfl) hHeld ?_
  go_frame
  refine takeL (i := 3) [4, 11, 14] (some 22) (by rfl) rfl rfl (by kernel_rfl) (by kernel_rfl) (by kernel_rfl) (by kernel_rfl) (fun _ _ _ h => h) (by rfl) (fun w hSw => by (try dsimp only at hSw); go_simp; try rfl) hHeld ?_
  go_frame
  refine takeL (i := 4) [11, 14] (some 23) (by rfl) rfl rfl (by kernel_rfl) (by kernel_rfl) (by kernel_rfl) (by kernel_rfl) (fun _ _ _ h => h) (by rfl) (fun w hSw => by (try dsimp only at hSw); (subst hSw; go_simp; try rfl)) hHeld ?_
  go_frame
  refine takeL (i := 5) [6, 7, 8, 10, 11, 14] (some 24) (by rfl) rfl rfl (by kernel_rfl) (by kernel_rfl) (by kernel_rfl) (by kernel_rfl) (fun _ _ _ h => h) (by rfl) (fun w hSw => by (try dsimp only at hSw); go_simp; try rfl) hHeld ?_
  go_frame
  refine takeL (i := 6) [7, 8, 10, 11, 14] (some 25) (by rfl) rfl rfl (by kernel_rfl) (by kernel_rfl) (by kernel_rfl) (by kernel_rfl) (fun _ _ _ h => h) (by rfl) (fun w hSw => by (try dsimp only at hSw); go_simp; try rfl) hHeld ?_
  go_frame
  refine takeL (i := 7) [8, 10, 11, 14] (some 26) (by rfl) rfl rfl (by kernel_rfl) (by kernel_rfl) (by kernel_rfl) (by kernel_rfl) (fun _ _ _ h => h) (by rfl) (fun w hSw => by (try dsimp only at hSw); go_simp; try rfl) hHeld ?_
  go_frame
  refine takeL (i := 8) [10, 11, 14] (some 27) (by rfl) rfl rfl (by kernel_rfl) (by kernel_rfl) (by kernel_rfl) (by kernel_rfl) (fun _ _ _ h => h) (by rfl) (fun w hSw => by (try dsimp only at hSw); (subst hSw; go_simp; try rfl)) hHeld ?_
  go_frame
  refine takeL (i := 9) [10, 11, 14] (some 28) (by rfl) rfl rfl (by kernel_rfl) (by kernel_rfl) (by kernel_rfl) (by kernel_rfl) (fun _ _ _ h => h) (by rfl) (fun w hSw => by (try dsimp only at hSw); go_simp; try rfl) hHeld ?_
  go_frame
  refine takeL (i := 10) [11, 14] (some 29) (by rfl) rfl rfl (by kernel_rfl) (by kernel_rfl) (by kernel_rfl) (by kernel_rfl) (fun _ _ _ h => h) (by rfl) (fun w hSw => by (try dsimp only at hSw); (refine (?_ : _ = Result.ok (Next.value (.int .i64 ((s + M : Nat) : Int))) _); go_simp; try rfl)) hHeld ?_
  go_frame
  refine takeL (i := 11) [14] (some 30) (by rfl) rfl rfl (by kernel_rfl) (by kernel_rfl) (by kernel_rfl) (by kernel_rfl) (fun _ _ _ h => h) (by rfl) (fun w hSw => by (try dsimp only at hSw); exact slb_h_run rfl rfl rfl rfl hjc) hHeld ?_
  go_frame
  rw [hco]
  refine takeL (i := 12) [13, 14] (some 31) (by rfl) rfl rfl (by kernel_rfl) (by kernel_rfl) (by kernel_rfl) (by kernel_rfl) (fun _ _ _ h => h) (by rfl) (fun w hSw => by (try dsimp only at hSw); go_simp; try rfl) hHeld ?_
  go_frame
  refine takeL (i := 13) [14] (some 32) (by rfl) rfl rfl (by kernel_rfl) (by kernel_rfl) (by kernel_rfl) (by kernel_rfl) (fun _ _ _ h => h) (by rfl) (fun w hSw => by (try dsimp only at hSw); go_simp; try rfl) hHeld ?_
  go_frame
  refine anyL_ready (rs := [14]) (by kernel_rfl) (by simp) (AllL.last rfl (by kernel_rfl) (fun K hK => ?_))
  go_simp
  refine hK.out _ _ ?_
  clear hK K
  refine anyL_done (by kernel_rfl) ?_
  have h3 : Tp (V.setCell ⟨b, 0, none⟩ (.slice q (s + M) cap)) base b (.slice q (s + M) cap) { S with l := S.l.take (s + M) } := h2.cut hn (by omega) hjn
  have mv3 := mv2.trans (mv_same (n' := s + M) (cap' := cap) (chg_set V b 0 (.slice q (s + M) cap)))
  clear x1 h2 mv2 hown hco c0 c1 f0 hHeld
  generalize V.setCell ⟨b, 0, none⟩ (.slice q (s + M) cap) = V3 at *
  have d0 := h3.oct.c0
  have d1 := h3.oct.c1
  have d3 := h3.oct.c3
  have d4 := h3.oct.c4
  have d5 := h3.oct.c5
  have d6 := h3.oct.c6
  have d7 := h3.oct.c7
  have f1 := h3.frozen 1
  have f3 := h3.frozen 3
  have f4 := h3.frozen 4
  have f5 := h3.frozen 5
  have f6 := h3.frozen 6
  have f7 := h3.frozen 7
  go_wp2_with fail
  go_end0
  have k8 := (((((chg_set V3 b 1 (.int .i64 ((s + M : Nat) : Int))).trans (chg_set _ b 3 (.bool false))).trans (chg_set _ b 4 (.int .i64 0))).trans (chg_set _ b 5 (.bool false))).trans (chg_set _ b 6 (.int .i64 0))).trans (chg_set _ b 7 (.bool false))
  have hB8 := ((((((h3.blk.set 1 (.int .i64 ((s + M : Nat) : Int))).set 3 (.bool false)).set 4 (.int .i64 0)).set 5 (.bool false)).set 6 (.int .i64 0)).set 7 (.bool false))
  refine ⟨rfl, .slice q (s + M) cap, ?_, mv3.trans (mv_chg _ k8)⟩
  rw [hS.out]
  exact h3.chg hB8 k8 rfl (by show s + M ≤ (S.l.take (s + M)).length; omega) (by simp) (by simp)
end Go.Proofs.YteffpgodookebaaGreat
namespace Go.Proofs.YteffpgodookebaaGreat
set_option maxRecDepth 100000
open Go.RowKit
set_option linter.unusedVariables false

abbrev up (l : List Nat) (s n : Nat) : TS := ⟨l, s, n, false, 0, false, 0, false⟩
theorem up_N (l : List Nat) (s n : Nat) : stN (up l s n) = 0 := by simp [stN, duF]
theorem up_S (l : List Nat) (s n : Nat) : stS (up l s n) = up l s (n + 1) := by simp [stS, duF, duS, duA]
theorem append_up (base b : Nat) (v vp : Value) (vs : List Value) (ls : List (List Nat)) (l : List Nat) (s n : Nat) (w : World) (h : Tp w base b v (up l s n)) (hst : n < 4611686018427387904) (hL : StL b w v vp vs ls) (hfit : l.length + ls.flatten.length ≤ 1048576) :
    Calls Tryz.prog 40 #[tptr b, vp] w fun e w' => e = .returned .nilIface ∧ ∃ v', Tp w' base b v' (up (l ++ ls.flatten) s (n + 1)) ∧ Mv b w w' v v' := by
  have h1 : apN (up l s n) ls.flatten.length = 0 := by unfold apN; rw [if_pos hfit]; exact up_N l s n
  have h2 : apS (up l s n) ls.flatten = up (l ++ ls.flatten) s (n + 1) := by unfold apS; rw [if_pos hfit, if_pos (up_N l s n), up_S]
  refine (append_any base b v vp vs ls (up l s n) w h hst hL).mono fun e w' h' => ?_
  rw [h1, h2] at h'
  exact h'
theorem sync_up (base b : Nat) (v : Value) (l : List Nat) (s n : Nat) (w : World) (h : Tp w base b v (up l s n)) (hst : n < 4611686018427387904) :
    Calls Tryz.prog 150 #[tptr b] w fun e w' => e = .returned .nilIface ∧ Tp w' base b v (up l l.length (n + 1)) ∧ Mv b w w' v v := by
  have h2 : syS (up l s n) = up l l.length (n + 1) := by unfold syS; rw [if_pos (up_N l s n), up_S]
  refine (sync_any base b v (up l s n) w h hst).mono fun e w' h' => ?_
  rw [up_N, h2] at h'
  exact h'
theorem cut_up (base b : Nat) (v : Value) (l : List Nat) (s n : Nat) (w : World) (h : Tp w base b v (up l s n)) :
    Calls Tryz.prog 151 #[tptr b] w fun e w' => e = .returned (.tuple #[]) ∧ ∃ v', Tp w' base b v' (up (l.take s) s n) ∧ Mv b w w' v v' := by
  have h2 : ctS (up l s n) = up (l.take s) s n := rfl
  refine (cut_any base b v (up l s n) w h).mono fun e w' h' => ?_
  rw [h2] at h'
  exact h'
theorem crash_up (base b : Nat) (v : Value) (S : TS) (k : Int) (j : Nat) (w : World) (h : Tp w base b v S) (hk : -9223372036854775808 ≤ k ∧ k ≤ 9223372036854775807) (hj : S.sure + min k.toNat (S.l.length - S.sure) = j) :
    Calls Tryz.prog 25 #[tptr b, .int .i64 k] w fun e w' => e = .returned (.tuple #[]) ∧ ∃ v', Tp w' base b v' (up (S.l.take j) j S.steps) ∧ Mv b w w' v v' := by
  subst hj
  exact crash_any base b v S k w h hk
/-- What was just made. -/
theorem stb_own {w w' : World} {base b n : Nat} {v x : Value} {S : TS} {m : List Nat} (hT : Tp w base b v S) (h : w'.ownsRow w.heap.size 5 1 x n (bys m)) : Stb b w' v x m :=
  stb_far (own_sl h).2 fun g hg => by
    have h1 := (h.lt g hg).1
    have h2 := hT.blk.lt
    refine ⟨by omega, fun e => ?_⟩
    have := (hT.own.lt g e).2
    omega

/-! A nil tape. -/
theorem down_nil (w : World) : Calls Tryz.prog 88 #[.pointer none] w fun e w' => e = .returned (.bool true) ∧ w' = w := by
  go_enter Tryz.func88, Tryz.ntmps88
  go_wp2_with fail
  go_ret
  exact ⟨rfl, rfl⟩
theorem room_nil (w : World) : Calls Tryz.prog 80 #[.pointer none] w fun e w' => e = .returned (.int .i64 1048576) ∧ w' = w := by
  go_enter Tryz.func80, Tryz.ntmps80
  go_wp2_with fail
  go_ret
  exact ⟨rfl, rfl⟩
theorem read_nil (w : World) : Calls Tryz.prog 28 #[.pointer none] w fun e w' => e = .returned (.slice none 0 0) ∧ w' = w := by
  go_enter Tryz.func28, Tryz.ntmps28
  go_wp2_with fail
  go_ret
  exact ⟨rfl, rfl⟩
theorem step_nil (w : World) : Calls Tryz.prog 81 #[.pointer none] w fun e w' => e = .returned (Err 5) ∧ w' = w := by
  go_enter Tryz.func81, Tryz.ntmps81
  go_wp2_with (go_at_call 88; refine (down_nil _).mono ?_; rintro e W1 ⟨rfl, hW1⟩; subst W1)
  go_ret
  exact ⟨rfl, rfl⟩
theorem sync_nil (w : World) : Calls Tryz.prog 150 #[.pointer none] w fun e w' => e = .returned (Err 5) ∧ w' = w := by
  have hne := ne_err 5
  go_enter Tryz.func150, Tryz.ntmps150
  go_wp2_with (go_at_call 81; refine (step_nil _).mono ?_; rintro e W1 ⟨rfl, hW1⟩; subst W1)
  go_ret
  exact ⟨rfl, rfl⟩
theorem fit_full (v : Value) (vs : List Value) (ls : List (List Nat)) (w : World) (hv : Ls w v vs ls) (hd : decide (ls.flatten.length ≤ 1048576) = true) :
    Calls Tryz.prog 79 #[v, .int .i64 1048576] w fun e w' => e = .returned (.bool true) ∧ w' = w := by
  have := fit_any v vs ls 1048576 w hv (by omega)
  rwa [hd] at this
theorem append_nil (vp : Value) (vs : List Value) (ls : List (List Nat)) (w : World) (hL : Ls w vp vs ls) (hfit : ls.flatten.length ≤ 1048576) : Calls Tryz.prog 40 #[.pointer none, vp] w fun e w' => e = .returned (Err 5) ∧ w' = w := by
  have hne := ne_err 5
  have hd : Hid (decide (ls.flatten.length ≤ 1048576) = true) := decide_eq_true hfit
  go_enter Tryz.func40, Tryz.ntmps40
  go_wp2_with (first
      | (go_at_call 80; refine (room_nil _).mono ?_; rintro e W1 ⟨rfl, hW1⟩; subst W1)
      | (go_at_call 79; refine (fit_full _ _ _ _ hL hd.out).mono ?_; rintro e W2 ⟨rfl, hW2⟩; subst W2)
      | (go_at_call 81; refine (step_nil _).mono ?_; rintro e W1 ⟨rfl, hW1⟩; subst W1))
  go_ret
  exact ⟨rfl, rfl⟩
theorem replace_nil (q : Option Addr) (n cap : Nat) (w : World) (hfit : n ≤ 1048576) : Calls Tryz.prog 90 #[.pointer none, .slice q n cap] w fun e w' => e = .returned (Err 5) ∧ w' = w := by
  have hne := ne_err 5
  go_enter Tryz.func90, Tryz.ntmps90
  go_wp2_with (go_at_call 81; refine (step_nil _).mono ?_; rintro e W1 ⟨rfl, hW1⟩; subst W1)
  go_ret
  exact ⟨rfl, rfl⟩
theorem arm_nil (n : Int) (w : World) : Calls Tryz.prog 23 #[.pointer none, .int .i64 n] w fun e w' => e = .returned (Err 1) ∧ w' = w := by
  go_enter Tryz.func23, Tryz.ntmps23
  go_wp2_with fail
  go_ret
  exact ⟨rfl, rfl⟩
theorem fail_nil (n : Int) (w : World) : Calls Tryz.prog 24 #[.pointer none, .int .i64 n] w fun e w' => e = .returned (Err 1) ∧ w' = w := by
  go_enter Tryz.func24, Tryz.ntmps24
  go_wp2_with fail
  go_ret
  exact ⟨rfl, rfl⟩
theorem cut_nil (w : World) : Calls Tryz.prog 151 #[.pointer none] w fun e w' => e = .returned (.tuple #[]) ∧ w' = w := by
  go_enter Tryz.func151, Tryz.ntmps151
  go_wp2_with (go_at_call 88; refine (down_nil _).mono ?_; rintro e W1 ⟨rfl, hW1⟩; subst W1)
  refine bodyPost_ret (results_none rfl _ _ _) rfl ?_
  exact ⟨rfl, rfl⟩
theorem crash_nil (n : Int) (w : World) : Calls Tryz.prog 25 #[.pointer none, .int .i64 n] w fun e w' => e = .returned (.tuple #[]) ∧ w' = w := by
  go_enter Tryz.func25, Tryz.ntmps25
  go_wp2_with fail
  refine bodyPost_ret (results_none rfl _ _ _) rfl ?_
  exact ⟨rfl, rfl⟩
end Go.Proofs.YteffpgodookebaaGreat
namespace Go.Proofs.YteffpgodookebaaGreat
set_option maxRecDepth 100000
open Go.RowKit
set_option linter.unusedVariables false
theorem stb_at {w w' : World} {base b n c : Nat} {v : Value} {S : TS} {m : List Nat} (hT : Tp w base b v S) (h : Sl w' (.slice (some ⟨w.heap.size, 0, none⟩) n c) m) : Stb b w' v (.slice (some ⟨w.heap.size, 0, none⟩) n c) m :=
  stb_far h fun g hg => by
    have hg' : w.heap.size = g := by simpa [Value.ownBlock] using hg
    have h2 := hT.blk.lt
    refine ⟨by omega, fun e => ?_⟩
    have := (hT.own.lt g e).2
    omega
theorem below_mark {w w1 w2 : World} (h : Below w.heap.size w w1) (k : Chg w.heap.size w1 w2) : Below w.heap.size w w2 := h.trans (k.below (Nat.le_refl _))
theorem str_abc : strB [97, 98, 99] = ⟨#[97, 98, 99]⟩ := by decide +kernel
end Go.Proofs.YteffpgodookebaaGreat
