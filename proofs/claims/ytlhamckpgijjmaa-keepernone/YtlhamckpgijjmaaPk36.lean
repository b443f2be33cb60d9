/-
  Plain mathematics of diaries: rows as frames, what a Split finds, what an Add, a Rewrite, an Open make of a tape.
  package diary in memory: a row's frame, write, Add, Len, Bytes, what a nil diary answers.
  package diary in memory: Add, Len, Bytes, without, a nil diary.
-/
import Derived.Test.YtlhamckpgijjmaaPk35
namespace Go.Proofs.Ytlhamckpgijjmaa
set_option linter.unusedVariables false

theorem spN_app (xs ys : List (List Nat)) : spN (xs ++ ys) = spN xs + spN ys := by simp [spN]
theorem frms_app (xs ys : List (List Nat)) : frms (xs ++ ys) = frms xs ++ frms ys := by simp [frms]
theorem frms_cons (r : List Nat) (rs : List (List Nat)) : frms (r :: rs) = frm r ++ frms rs := by simp [frms]
/-- Rows, and something behind them that begins with no frame. -/
theorem spt_rows (rs : List (List Nat)) (h : ∀ r ∈ rs, r.length ≤ 16376) (t : List Nat) : spt (frms rs ++ t) = rs ++ spt t := by
  induction rs with
  | nil => rfl
  | cons r rs ih =>
    have hr := h r (List.mem_cons_self ..)
    rw [frms_cons, List.append_assoc]
    obtain ⟨o, b⟩ := ins_frm r (frms rs ++ t) hr
    rw [spt_go o, b, List.cons_append]
    congr 1
    rw [List.drop_append_of_le_length (by rw [frm_len]; omega), List.drop_of_length_le (by rw [frm_len]; omega), List.nil_append]
    exact ih (fun x hx => h x (List.mem_cons_of_mem _ hx))
theorem spt_nil : spt [] = [] := spt_stop (by decide)
theorem spt_frms (rs : List (List Nat)) (h : ∀ r ∈ rs, r.length ≤ 16376) : spt (frms rs) = rs := by
  have := spt_rows rs h []
  rwa [List.append_nil, spt_nil, List.append_nil] at this
/-- What is found is what the bytes begin with. -/
theorem spt_take : ∀ (n : Nat) (l : List Nat), l.length ≤ n → Byt l → l.take (spN (spt l)) = frms (spt l) ∧ spN (spt l) ≤ l.length
  | n, l, hn, hb => by
    cases ho : insOK l with
    | false => rw [spt_stop ho]; exact ⟨rfl, Nat.zero_le _⟩
    | true =>
      have hle := insB_le ho
      cases n with
      | zero => omega
      | succ n =>
        obtain ⟨h1, h2⟩ := spt_take n (l.drop (8 + (insB l).length)) (by rw [List.length_drop]; omega) (hb.drop _)
        have hi := (insOK_iff l).1 ho
        have hfr := (ins_of hb hi.1 hi.2.1 hi.2.2.1).2 ho
        rw [← insB_len ho] at hfr
        rw [List.length_drop] at h2
        rw [spt_go ho, frms_cons, show ∀ xs : List (List Nat), spN (insB l :: xs) = 8 + (insB l).length + spN xs by intro xs; simp [spN], List.take_add, h1, hfr]
        exact ⟨rfl, by omega⟩
theorem spt_le (l : List Nat) (hb : Byt l) : spN (spt l) ≤ l.length := (spt_take _ l (Nat.le_refl _) hb).2
theorem spt_eq (l : List Nat) (hb : Byt l) : l.take (spN (spt l)) = frms (spt l) := (spt_take _ l (Nat.le_refl _) hb).1
theorem spt_each : ∀ (n : Nat) (l : List Nat), l.length ≤ n → Byt l → ∀ r ∈ spt l, r.length ≤ 16376 ∧ Byt r
  | n, l, hn, hb => by
    cases ho : insOK l with
    | false => rw [spt_stop ho]; intro r hr; cases hr
    | true =>
      have hle := insB_le ho
      cases n with
      | zero => omega
      | succ n =>
        rw [spt_go ho]
        intro r hr
        rcases List.mem_cons.1 hr with rfl | hr
        · exact ⟨hle.2, (hb.drop _).take _⟩
        · exact spt_each n _ (by rw [List.length_drop]; omega) (hb.drop _) r hr
theorem spt_few (l : List Nat) (hb : Byt l) : 8 * (spt l).length ≤ l.length := Nat.le_trans (spN_len _) (spt_le l hb)

/-- An Add's error, and the tape behind it; an Open's. -/
def wrN (S : TS) (m : List Nat) : Nat := if apN S m.length = 0 then stN (apS S m) else apN S m.length
def wrS (S : TS) (m : List Nat) : TS := if apN S m.length = 0 then (if stN (apS S m) = 0 then syS (apS S m) else ctS (syS (apS S m))) else if apN S m.length = 7 then apS S m else ctS (apS S m)
theorem stN_of (S : TS) : stN S = 0 ∨ stN S = 5 ∨ stN S = 6 := by
  unfold stN
  split
  · exact .inr (.inl rfl)
  · split
    · exact .inr (.inl rfl)
    · split
      · exact .inr (.inr rfl)
      · exact .inl rfl
theorem apN_of (S : TS) (k : Nat) : apN S k = 0 ∨ apN S k = 5 ∨ apN S k = 6 ∨ apN S k = 7 := by
  unfold apN
  split
  · rcases stN_of S with h | h | h <;> simp [h]
  · simp
def opN (S : TS) : Nat := if S.down = true then 5 else if spN (spt S.l) < S.l.length then stN S else 0
def opS (S : TS) : TS := if S.down = true then S else if spN (spt S.l) < S.l.length then rpS S (S.l.take (spN (spt S.l))) else S
/-- A tape whose power is there, nothing due. -/
theorem op_up (rs : List (List Nat)) (h : ∀ r ∈ rs, r.length ≤ 16376) (s n : Nat) : opN (up (frms rs) s n) = 0 ∧ opS (up (frms rs) s n) = up (frms rs) s n := by
  have e := spt_frms rs h
  have e2 := frms_len rs
  constructor
  · unfold opN; simp only; rw [e, e2]; simp
  · unfold opS; simp only; rw [e, e2]; simp
theorem wr_up (l m : List Nat) (s n : Nat) (h : l.length + m.length ≤ 1048576) : wrN (up l s n) m = 0 ∧ wrS (up l s n) m = up (l ++ m) (l ++ m).length (n + 2) := by
  have h1 : apN (up l s n) m.length = 0 := by unfold apN; rw [if_pos h]; exact up_N _ _ _
  have h2 : apS (up l s n) m = up (l ++ m) s (n + 1) := by unfold apS; rw [if_pos h, if_pos (up_N _ _ _), up_S]
  constructor
  · unfold wrN; rw [if_pos h1, h2]; exact up_N _ _ _
  · unfold wrS; rw [if_pos h1, h2, if_pos (up_N _ _ _)]; unfold syS; rw [if_pos (up_N _ _ _), up_S]
end Go.Proofs.Ytlhamckpgijjmaa
namespace Go.Proofs.Ytlhamckpgijjmaa
open Go.RowKit
set_option linter.unusedVariables false
set_option maxRecDepth 100000

/-- A diary's cells: its tape, how many rows, how many bytes. -/
abbrev dcs (b n k : Nat) : Array Value := #[tptr b, .int .i64 ((n : Nat) : Int), .int .i64 ((k : Nat) : Int)]
theorem Blk.mv {W W' : World} {base b d : Nat} {v v' : Value} {S : TS} {xs : Array Value} {t : TypeId} (h : Blk W d xs t) (hT : Tp W base b v S) (m : Mv b W W' v v') (h1 : t ≠ 63) (h2 : t ≠ 5) : Blk W' d xs t := by
  unfold Blk
  rw [m.other d h.lt (blk_ne h hT.blk h1) (blk_own hT.own h h2)]
  exact h
theorem eq07 (w : World) : (binOp .eql 28 .nilIface (Err 7)).run Try.prog w = .ok (.bool false) w := by kernel_rfl
theorem eq57 (w : World) : (binOp .eql 28 (Err 5) (Err 7)).run Try.prog w = .ok (.bool false) w := by kernel_rfl
theorem eq67 (w : World) : (binOp .eql 28 (Err 6) (Err 7)).run Try.prog w = .ok (.bool false) w := by kernel_rfl
theorem eq7n (w : World) : (binOp .eql 28 (Err 7) (Err 7)).run Try.prog w = .ok (.bool true) w := by kernel_rfl
theorem eq5n (w : World) : (binOp .eql 28 (Err 5) .nilIface).run Try.prog w = .ok (.bool false) w := by kernel_rfl
theorem eq6n (w : World) : (binOp .eql 28 (Err 6) .nilIface).run Try.prog w = .ok (.bool false) w := by kernel_rfl
theorem ne5n (w : World) : (binOp .neq 28 (Err 5) .nilIface).run Try.prog w = .ok (.bool true) w := by kernel_rfl
theorem ne6n (w : World) : (binOp .neq 28 (Err 6) .nilIface).run Try.prog w = .ok (.bool true) w := by kernel_rfl
theorem flat_one (a : List Nat) : [a].flatten = a := by simp

set_option maxHeartbeats 1000000 in
theorem write_any (base b d nr ns : Nat) (v x : Value) (m : List Nat) (S : TS) (w : World) (hT : Tp w base b v S) (hst : S.steps < 4611686018427387000) (hD : Blk w d (dcs b nr ns) 103) (hx : Stb b w v x m) :
    Calls Try.prog 64 #[tptr d, x] w fun e w' => e = .returned (errV (wrN S m)) ∧ ∃ v', Tp w' base b v' (wrS S m) ∧ Mv b w w' v v' := by
  obtain ⟨qx, nx, cx, ex⟩ := hx.sl.slice
  subst ex
  have c0 := hD.at (i := 0) rfl
  go_enter Try.func64, Try.ntmps64
  go_upto_region 2 with (first
    | (refine bs_ls rfl rfl [_] [m] (by simp only [List.map_toArray, List.map_cons, List.map_nil]; rfl) (bsl1 _ _ _ _) rfl (by decide) rfl (each1 hx.sl) ?_; intro W2 ls2 b2 k2; have h2 := hT.keep b2; have st2 := stl_new (n := 1) [_] [m] hT b2 k2 rfl (by decide) rfl (eachS1 hx))
    | (go_at_call 74; refine (append_any _ _ _ _ _ _ _ _ h2 (by omega) st2).mono ?_; rw [flat_one]; rintro e W3 ⟨rfl, v3, h3, m3⟩))
  have mv3 := (mv_below (b := b) v b2).trans m3
  have hD3 := hD.mv hT mv3 (by decide) (by decide)
  have d0 := hD3.at (i := 0) rfl
  have hs3 := steps_ap S m
  have e07 := eq07
  have e57 := eq57
  have e67 := eq67
  have e5n := eq5n
  have e6n := eq6n
  have n5n := ne5n
  have n6n := ne6n
  clear m3 st2 h2 k2 ls2 b2 hx c0 hD
  rcases apN_of S m.length with hN | hN | hN | hN
  · have HN : Hid (wrN S m = stN (apS S m)) := if_pos hN
    have HS : Hid (wrS S m = if stN (apS S m) = 0 then syS (apS S m) else ctS (syS (apS S m))) := if_pos hN
    rw [errV_ok hN]
    generalize hAS : apS S m = A at *
    clear hN
    go_upto_region 6 with (go_at_call 75; refine (sync_any _ _ _ _ _ h3 (by omega)).mono ?_; rintro e W4 ⟨rfl, h4, m4⟩)
    have hD4 := hD3.mv h3 m4 (by decide) (by decide)
    have d4 := hD4.at (i := 0) rfl
    have mv4 := mv3.trans m4
    clear hD3 h3 d0 mv3 m4
    rcases stN_of A with hM | hM | hM
    · have HE : Hid (errV (wrN S m) = .nilIface) := by show _ = _; rw [HN.out, errV_ok hM]
      have HS2 : Hid (wrS S m = syS A) := HS.out.trans (if_pos hM)
      rw [errV_ok hM]
      go_wp2_with fail
      go_ret
      exact ⟨by rw [HE.out]; rfl, _, by rw [HS2.out]; exact h4, mv4⟩
    · have HE : Hid (errV (wrN S m) = Err 5) := by show _ = _; rw [HN.out, hM]; rfl
      have HS2 : Hid (wrS S m = ctS (syS A)) := HS.out.trans (if_neg (by omega))
      rw [hM, show errV 5 = Err 5 from rfl]
      go_wp2_with (go_at_call 76; refine (cut_any _ _ _ _ _ h4).mono ?_; rintro e W5 ⟨rfl, v5, h5, m5⟩)
      go_ret
      exact ⟨by rw [HE.out]; rfl, _, by rw [HS2.out]; exact h5, mv4.trans m5⟩
    · have HE : Hid (errV (wrN S m) = Err 6) := by show _ = _; rw [HN.out, hM]; rfl
      have HS2 : Hid (wrS S m = ctS (syS A)) := HS.out.trans (if_neg (by omega))
      rw [hM, show errV 6 = Err 6 from rfl]
      go_wp2_with (go_at_call 76; refine (cut_any _ _ _ _ _ h4).mono ?_; rintro e W5 ⟨rfl, v5, h5, m5⟩)
      go_ret
      exact ⟨by rw [HE.out]; rfl, _, by rw [HS2.out]; exact h5, mv4.trans m5⟩
  · have HE : Hid (errV (wrN S m) = Err 5) := by show _ = _; unfold wrN; rw [if_neg (by omega), hN]; rfl
    have HS2 : Hid (wrS S m = ctS (apS S m)) := by show _ = _; unfold wrS; rw [if_neg (by omega), if_neg (by omega)]
    rw [hN, show errV 5 = Err 5 from rfl]
    clear hN
    go_wp2_with (go_at_call 76; refine (cut_any _ _ _ _ _ h3).mono ?_; rintro e W5 ⟨rfl, v5, h5, m5⟩)
    go_ret
    exact ⟨by rw [HE.out]; rfl, _, by rw [HS2.out]; exact h5, mv3.trans m5⟩
  · have HE : Hid (errV (wrN S m) = Err 6) := by show _ = _; unfold wrN; rw [if_neg (by omega), hN]; rfl
    have HS2 : Hid (wrS S m = ctS (apS S m)) := by show _ = _; unfold wrS; rw [if_neg (by omega), if_neg (by omega)]
    rw [hN, show errV 6 = Err 6 from rfl]
    clear hN
    go_wp2_with (go_at_call 76; refine (cut_any _ _ _ _ _ h3).mono ?_; rintro e W5 ⟨rfl, v5, h5, m5⟩)
    go_ret
    exact ⟨by rw [HE.out]; rfl, _, by rw [HS2.out]; exact h5, mv3.trans m5⟩
  · have HE : Hid (errV (wrN S m) = Err 7) := by show _ = _; unfold wrN; rw [if_neg (by omega), hN]; rfl
    have HS2 : Hid (wrS S m = apS S m) := by show _ = _; unfold wrS; rw [if_neg (by omega), if_pos hN]
    have e7n := eq7n
    rw [hN, show errV 7 = Err 7 from rfl]
    clear hN
    go_wp2_with fail
    go_ret
    exact ⟨by rw [HE.out]; rfl, _, by rw [HS2.out]; exact h3, mv3⟩
end Go.Proofs.Ytlhamckpgijjmaa
namespace Go.Proofs.Ytlhamckpgijjmaa
open Go.RowKit
set_option linter.unusedVariables false
set_option maxRecDepth 100000

theorem wrN_of (S : TS) (m : List Nat) : wrN S m = 0 ∨ wrN S m = 5 ∨ wrN S m = 6 ∨ wrN S m = 7 := by
  unfold wrN
  split
  · rcases stN_of (apS S m) with h | h | h <;> simp [h]
  · exact apN_of S _
/-- Whatever turns in the diary's block and in the tape's memory: a third one. -/
theorem tp_far {w : World} {base b d nr ns : Nat} {v : Value} {S : TS} (hT : Tp w base b v S) (hD : Blk w d (dcs b nr ns) 103) : b ≠ d ∧ v.ownBlock ≠ some d :=
  ⟨Ne.symm (blk_ne hD hT.blk (by decide)), blk_own hT.own hD (by decide)⟩
theorem Mw.refl (b r : Nat) (w : World) (v : Value) : Mw b r w w v v := (Mv.refl b w v).mw r
theorem mw_below {b r : Nat} {w w' : World} (v : Value) (h : Below w.heap.size w w') : Mw b r w w' v v := (mv_below v h).mw r
set_option maxHeartbeats 1000000 in
theorem dadd_any (base b d nr ns : Nat) (v x : Value) (m : List Nat) (S : TS) (w : World) (hT : Tp w base b v S) (hst : S.steps < 4611686018427387000) (hD : Blk w d (dcs b nr ns) 103) (hx : Sl w x m) (hb : Byt m) (hm : m.length ≤ 16376) (hnr : nr ≤ 4611686018427387904) (hns : ns ≤ 4611686018427387904) :
    Calls Try.prog 48 #[tptr d, x] w fun e w' => e = .returned (errV (wrN S (frm m))) ∧ ∃ v', Tp w' base b v' (wrS S (frm m)) ∧ Mw b d w w' v v' ∧ (wrN S (frm m) = 0 → Blk w' d (dcs b (nr + 1) (ns + (8 + m.length))) 103) ∧ (wrN S (frm m) ≠ 0 → Blk w' d (dcs b nr ns) 103) := by
  obtain ⟨qx, nx, cx, ex⟩ := hx.slice
  subst ex
  have HL : Hid ((frm m).length = 8 + m.length) := frm_len m
  have n5n := ne5n
  have n6n := ne6n
  have n7n := ne70
  go_enter Try.func48, Try.ntmps48
  go_upto_region 7 with (first
    | (refine bs_ls rfl rfl [_] [m] (by simp only [List.map_toArray, List.map_cons, List.map_nil]; rfl) (bsl1 _ _ _ _) rfl (by decide) rfl (each1 hx) ?_; intro W2 ls2 b2 k2)
    | (go_at_call 63; refine (wrap_ok _ _ _ _ ls2 (by intro l hl; simp at hl; subst hl; exact hb) (by rw [flat_one]; exact hm)).mono ?_; rw [flat_one]; rintro e W3 ⟨v3, rfl, O3, -, b3⟩; obtain ⟨q3, c3, e3⟩ := O3.form; rw [HL.out] at e3; subst e3; have h3 := (hT.keep b2).keep b3; have hD3 := (hD.keep b2).keep b3; have t3 := stb_own (hT.keep b2) O3)
    | (go_at_call 64; refine (write_any _ _ _ _ _ _ _ _ _ _ h3 (by omega) hD3 t3).mono ?_; rintro e W4 ⟨rfl, v4, h4, m4⟩))
  have mv4 := ((mv_below (b := b) v b2).trans (mv_below v b3)).trans m4
  have hD4 := hD3.mv h3 m4 (by decide) (by decide)
  obtain ⟨far1, far2⟩ := tp_far h4 hD4
  have d1 := hD4.at (i := 1) rfl
  have d2 := hD4.at (i := 2) rfl
  have f1 := hD4.frozen 1
  have f2 := hD4.frozen 2
  clear m4 t3 h3 hD3 b3 b2 ls2 k2 O3 hT hD hx hb
  rcases wrN_of S (frm m) with hN | hN | hN | hN
  · have HN : Hid (wrN S (frm m) = 0) := hN
    rw [errV_ok hN]
    clear hN
    generalize hml : m.length = nm at *
    go_wp2_with fail
    go_ret
    have hB := (hD4.set 1 (.int .i64 (((nr + 1 : Nat) : Int)))).set 2 (.int .i64 ((ns + (8 + nm) : Nat) : Int))
    have k5 : Chg d W4 _ := (chg_set W4 d 1 (.int .i64 (((nr + 1 : Nat) : Int)))).trans (chg_set _ d 2 (.int .i64 ((ns + (8 + nm) : Nat) : Int)))
    refine ⟨by rw [HN.out]; rfl, v4, h4.chgO k5 far1 far2, (mv4.mw d).trans (k5.mw b v4), fun _ => by rw [hml]; exact hB, fun h => absurd HN.out h⟩
  · have HN : Hid (wrN S (frm m) = 5) := hN
    rw [hN, show errV 5 = Err 5 from rfl]
    clear hN
    go_wp2_with fail
    go_ret
    exact ⟨by rw [HN.out]; rfl, v4, h4, mv4.mw d, fun h => (by rw [HN.out] at h; cases h), fun _ => hD4⟩
  · have HN : Hid (wrN S (frm m) = 6) := hN
    rw [hN, show errV 6 = Err 6 from rfl]
    clear hN
    go_wp2_with fail
    go_ret
    exact ⟨by rw [HN.out]; rfl, v4, h4, mv4.mw d, fun h => (by rw [HN.out] at h; cases h), fun _ => hD4⟩
  · have HN : Hid (wrN S (frm m) = 7) := hN
    rw [hN, show errV 7 = Err 7 from rfl]
    clear hN
    go_wp2_with fail
    go_ret
    exact ⟨by rw [HN.out]; rfl, v4, h4, mv4.mw d, fun h => (by rw [HN.out] at h; cases h), fun _ => hD4⟩
/-- A row that is too long. -/
theorem dadd_no (p : Option Addr) (x : Value) (m : List Nat) (w : World) (hx : Sl w x m) (hm : 16376 < m.length) (hr : m.length ≤ 200000000000000) :
    Calls Try.prog 48 #[.pointer p, x] w fun e w' => e = .returned (Err 7) ∧ Below w.heap.size w w' := by
  obtain ⟨qx, nx, cx, ex⟩ := hx.slice
  subst ex
  have n7n := ne70
  go_enter Try.func48, Try.ntmps48
  go_wp2_with (first
    | (refine bs_ls rfl rfl [_] [m] (by simp only [List.map_toArray, List.map_cons, List.map_nil]; rfl) (bsl1 _ _ _ _) rfl (by decide) rfl (each1 hx) ?_; intro W2 ls2 b2 k2)
    | (go_at_call 63; refine (wrap_noL _ _ _ _ ls2 (by intro l hl; simp at hl; subst hl; exact hr) (by rw [flat_one]; exact hm)).mono ?_; rintro e W3 ⟨rfl, b3⟩))
  go_ret
  exact ⟨rfl, ab_trans b2 b3⟩
theorem dadd_nil (x : Value) (m : List Nat) (w : World) (hx : Sl w x m) (hb : Byt m) (hm : m.length ≤ 16376) :
    Calls Try.prog 48 #[.pointer none, x] w fun e w' => e = .returned (Err 5) ∧ Below w.heap.size w w' := by
  obtain ⟨qx, nx, cx, ex⟩ := hx.slice
  subst ex
  have HL : Hid ((frm m).length = 8 + m.length) := frm_len m
  go_enter Try.func48, Try.ntmps48
  go_wp2_with (first
    | (refine bs_ls rfl rfl [_] [m] (by simp only [List.map_toArray, List.map_cons, List.map_nil]; rfl) (bsl1 _ _ _ _) rfl (by decide) rfl (each1 hx) ?_; intro W2 ls2 b2 k2)
    | (go_at_call 63; refine (wrap_ok _ _ _ _ ls2 (by intro l hl; simp at hl; subst hl; exact hb) (by rw [flat_one]; exact hm)).mono ?_; rw [flat_one]; rintro e W3 ⟨v3, rfl, O3, -, b3⟩; obtain ⟨q3, c3, e3⟩ := O3.form; rw [HL.out] at e3; subst e3))
  go_ret
  exact ⟨rfl, ab_trans b2 b3⟩
theorem dlen_any (b d nr ns : Nat) (w : World) (hD : Blk w d (dcs b nr ns) 103) : Calls Try.prog 34 #[tptr d] w fun e w' => e = .returned (.int .i64 ((nr : Nat) : Int)) ∧ w' = w := by
  have d1 := hD.at (i := 1) rfl
  go_enter Try.func34, Try.ntmps34
  go_wp2_with fail
  go_ret
  exact ⟨rfl, rfl⟩
theorem dlen_nil (w : World) : Calls Try.prog 34 #[.pointer none] w fun e w' => e = .returned (.int .i64 0) ∧ w' = w := by
  go_enter Try.func34, Try.ntmps34
  go_wp2_with fail
  go_ret
  exact ⟨rfl, rfl⟩
theorem dopen_nil (w : World) : Calls Try.prog 21 #[.pointer none] w fun e w' => e = .returned (.tuple #[.pointer none, .slice none 0 0, Err 5]) ∧ w' = w := by
  go_enter Try.func21, Try.ntmps21
  go_wp2_with (go_at_call 16; refine (down_nil _).mono ?_; rintro e X ⟨rfl, hX⟩; subst X)
  go_ret3
  exact ⟨rfl, rfl⟩
end Go.Proofs.Ytlhamckpgijjmaa
