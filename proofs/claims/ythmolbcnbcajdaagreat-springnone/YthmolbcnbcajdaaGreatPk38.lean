/-
  estuarylaw06.play: one call by both tapes.
  Plain mathematics of diaries: rows as frames, what a Split finds, what an Add, a Rewrite, an Open make of a tape.
  package diary in memory: a row's frame, write, Add, Len, Bytes, what a nil diary answers.
  package diary in memory: Add, Len, Bytes, without, a nil diary.
  package diary in memory: Open.
  package diary in memory: Rewrite, without.
  A diary on a tape that is up; estuarylaw07.alive.
-/
import Derived.Test.YthmolbcnbcajdaaGreatPk36
import Derived.Deep.CutRange
import Derived.Deep.CutBlock
import Derived.Test.YthmolbcnbcajdaaGreatPk33
namespace Go.Proofs.YthmolbcnbcajdaaGreat
set_option maxRecDepth 100000
open Go.RowKit
set_option linter.unusedVariables false

theorem steps_st (S : TS) : (stS S).steps ≤ S.steps + 1 := by
  unfold stS
  split
  · omega
  · split
    · show S.steps ≤ _; omega
    · show S.steps + 1 ≤ _; omega
theorem steps_ap (S : TS) (m : List Nat) : (apS S m).steps ≤ S.steps + 1 := by
  have := steps_st S
  unfold apS
  split
  · split <;> exact this
  · omega
theorem steps_rp (S : TS) (m : List Nat) : (rpS S m).steps ≤ S.steps + 1 := by
  have := steps_st S
  unfold rpS
  split
  · split <;> exact this
  · omega
theorem steps_sy (S : TS) : (syS S).steps ≤ S.steps + 1 := by
  have := steps_st S
  unfold syS
  split <;> exact this
theorem steps_ct (S : TS) : (ctS S).steps ≤ S.steps + 1 := by
  unfold ctS
  split
  · omega
  · show S.steps ≤ _; omega
end Go.Proofs.YthmolbcnbcajdaaGreat
namespace Go.Proofs.YthmolbcnbcajdaaGreat
set_option maxRecDepth 100000
set_option linter.unusedVariables false

theorem spN_app (xs ys : List (List Nat)) : spN (xs ++ ys) = spN xs + spN ys := by simp [spN]
theorem frms_app (xs ys : List (List Nat)) : frms (xs ++ ys) = frms xs ++ frms ys := by simp [frms]
theorem frms_cons (r : List Nat) (rs : List (List Nat)) : frms (r :: rs) = frm r ++ frms rs := by simp [frms]
/-- Rows, and something behind them that begins with no frame. -/
theorem spt_rows (rs : List (List Nat)) (h : ∀ r ∈ rs, r.length ≤ 16376) (t : List Nat) : spt (frms rs ++ t) = rs ++ spt t := by
  induction rs with
  | nil => rfl
  | cons r rs ih =>
    have hr := h r (List.mem_cons_self ..)
    rw [frms_cons, List.append_assoc]
    obtain ⟨o, b⟩ := ins_frm r (frms rs ++ t) hr
    rw [spt_go o, b, List.cons_append]
    congr 1
    rw [List.drop_append_of_le_length (by rw [frm_len]; omega), List.drop_of_length_le (by rw [frm_len]; omega), List.nil_append]
    exact ih (fun x hx => h x (List.mem_cons_of_mem _ hx))
theorem spt_nil : spt [] = [] := spt_stop (by decide)
theorem spt_frms (rs : List (List Nat)) (h : ∀ r ∈ rs, r.length ≤ 16376) : spt (frms rs) = rs := by
  have := spt_rows rs h []
  rwa [List.append_nil, spt_nil, List.append_nil] at this
/-- What is found is what the bytes begin with. -/
theorem spt_take : ∀ (n : Nat) (l : List Nat), l.length ≤ n → Byt l → l.take (spN (spt l)) = frms (spt l) ∧ spN (spt l) ≤ l.length
  | n, l, hn, hb => by
    cases ho : insOK l with
    | false => rw [spt_stop ho]; exact ⟨rfl, Nat.zero_le _⟩
    | true =>
      have hle := insB_le ho
      cases n with
      | zero => omega
      | succ n =>
        obtain ⟨h1, h2⟩ := spt_take n (l.drop (8 + (insB l).length)) (by rw [List.length_drop]; omega) (hb.drop _)
        have hi := (insOK_iff l).1 ho
        have hfr := (ins_of hb hi.1 hi.2.1 hi.2.2.1).2 ho
        rw [← insB_len ho] at hfr
        rw [List.length_drop] at h2
        rw [spt_go ho, frms_cons, show ∀ xs : List (List Nat), spN (insB l :: xs) = 8 + (insB l).length + spN xs by intro xs; simp [spN], List.take_add, h1, hfr]
        exact ⟨rfl, by omega⟩
theorem spt_le (l : List Nat) (hb : Byt l) : spN (spt l) ≤ l.length := (spt_take _ l (Nat.le_refl _) hb).2
theorem spt_eq (l : List Nat) (hb : Byt l) : l.take (spN (spt l)) = frms (spt l) := (spt_take _ l (Nat.le_refl _) hb).1
theorem spt_each : ∀ (n : Nat) (l : List Nat), l.length ≤ n → Byt l → ∀ r ∈ spt l, r.length ≤ 16376 ∧ Byt r
  | n, l, hn, hb => by
    cases ho : insOK l with
    | false => rw [spt_stop ho]; intro r hr; cases hr
    | true =>
      have hle := insB_le ho
      cases n with
      | zero => omega
      | succ n =>
        rw [spt_go ho]
        intro r hr
        rcases List.mem_cons.1 hr with rfl | hr
        · exact ⟨hle.2, (hb.drop _).take _⟩
        · exact spt_each n _ (by rw [List.length_drop]; omega) (hb.drop _) r hr
theorem spt_few (l : List Nat) (hb : Byt l) : 8 * (spt l).length ≤ l.length := Nat.le_trans (spN_len _) (spt_le l hb)

/-- An Add's error, and the tape behind it; an Open's. -/
def wrN (S : TS) (m : List Nat) : Nat := if apN S m.length = 0 then stN (apS S m) else apN S m.length
def wrS (S : TS) (m : List Nat) : TS := if apN S m.length = 0 then (if stN (apS S m) = 0 then syS (apS S m) else ctS (syS (apS S m))) else if apN S m.length = 7 then apS S m else ctS (apS S m)
theorem stN_of (S : TS) : stN S = 0 ∨ stN S = 5 ∨ stN S = 6 := by
  unfold stN
  split
  · exact .inr (.inl rfl)
  · split
    · exact .inr (.inl rfl)
    · split
      · exact .inr (.inr rfl)
      · exact .inl rfl
theorem apN_of (S : TS) (k : Nat) : apN S k = 0 ∨ apN S k = 5 ∨ apN S k = 6 ∨ apN S k = 7 := by
  unfold apN
  split
  · rcases stN_of S with h | h | h <;> simp [h]
  · simp
def opN (S : TS) : Nat := if S.down = true then 5 else if spN (spt S.l) < S.l.length then stN S else 0
def opS (S : TS) : TS := if S.down = true then S else if spN (spt S.l) < S.l.length then rpS S (S.l.take (spN (spt S.l))) else S
/-- A tape whose power is there, nothing due. -/
theorem op_up (rs : List (List Nat)) (h : ∀ r ∈ rs, r.length ≤ 16376) (s n : Nat) : opN (up (frms rs) s n) = 0 ∧ opS (up (frms rs) s n) = up (frms rs) s n := by
  have e := spt_frms rs h
  have e2 := frms_len rs
  constructor
  · unfold opN; simp only; rw [e, e2]; simp
  · unfold opS; simp only; rw [e, e2]; simp
theorem wr_up (l m : List Nat) (s n : Nat) (h : l.length + m.length ≤ 1048576) : wrN (up l s n) m = 0 ∧ wrS (up l s n) m = up (l ++ m) (l ++ m).length (n + 2) := by
  have h1 : apN (up l s n) m.length = 0 := by unfold apN; rw [if_pos h]; exact up_N _ _ _
  have h2 : apS (up l s n) m = up (l ++ m) s (n + 1) := by unfold apS; rw [if_pos h, if_pos (up_N _ _ _), up_S]
  constructor
  · unfold wrN; rw [if_pos h1, h2]; exact up_N _ _ _
  · unfold wrS; rw [if_pos h1, h2, if_pos (up_N _ _ _)]; unfold syS; rw [if_pos (up_N _ _ _), up_S]
end Go.Proofs.YthmolbcnbcajdaaGreat
namespace Go.Proofs.YthmolbcnbcajdaaGreat
open Go.RowKit
set_option linter.unusedVariables false
set_option maxRecDepth 100000

/-- A diary's cells: its tape, how many rows, how many bytes. -/
abbrev dcs (b n k : Nat) : Array Value := #[tptr b, .int .i64 ((n : Nat) : Int), .int .i64 ((k : Nat) : Int)]
theorem Blk.mv {W W' : World} {base b d : Nat} {v v' : Value} {S : TS} {xs : Array Value} {t : TypeId} (h : Blk W d xs t) (hT : Tp W base b v S) (m : Mv b W W' v v') (h1 : t ≠ 72) (h2 : t ≠ 5) : Blk W' d xs t := by
  unfold Blk
  rw [m.other d h.lt (blk_ne h hT.blk h1) (blk_own hT.own h h2)]
  exact h
theorem eq07 (w : World) : (binOp .eql 32 .nilIface (Err 7)).run Tryz.prog w = .ok (.bool false) w := by kernel_rfl
theorem eq57 (w : World) : (binOp .eql 32 (Err 5) (Err 7)).run Tryz.prog w = .ok (.bool false) w := by kernel_rfl
theorem eq67 (w : World) : (binOp .eql 32 (Err 6) (Err 7)).run Tryz.prog w = .ok (.bool false) w := by kernel_rfl
theorem eq7n (w : World) : (binOp .eql 32 (Err 7) (Err 7)).run Tryz.prog w = .ok (.bool true) w := by kernel_rfl
theorem eq5n (w : World) : (binOp .eql 32 (Err 5) .nilIface).run Tryz.prog w = .ok (.bool false) w := by kernel_rfl
theorem eq6n (w : World) : (binOp .eql 32 (Err 6) .nilIface).run Tryz.prog w = .ok (.bool false) w := by kernel_rfl
theorem ne5n (w : World) : (binOp .neq 32 (Err 5) .nilIface).run Tryz.prog w = .ok (.bool true) w := by kernel_rfl
theorem ne6n (w : World) : (binOp .neq 32 (Err 6) .nilIface).run Tryz.prog w = .ok (.bool true) w := by kernel_rfl
theorem flat_one (a : List Nat) : [a].flatten = a := by simp

set_option maxHeartbeats 1000000 in
theorem write_any (base b d nr ns : Nat) (v x : Value) (m : List Nat) (S : TS) (w : World) (hT : Tp w base b v S) (hst : S.steps < 4611686018427387000) (hD : Blk w d (dcs b nr ns) 91) (hx : Stb b w v x m) :
    Calls Tryz.prog 55 #[tptr d, x] w fun e w' => e = .returned (errV (wrN S m)) ∧ ∃ v', Tp w' base b v' (wrS S m) ∧ Mv b w w' v v' := by
  obtain ⟨qx, nx, cx, ex⟩ := hx.sl.slice
  subst ex
  have c0 := hD.at (i := 0) rfl
  go_enter Tryz.func55, Tryz.ntmps55
  go_upto_region 2 with (first
    | (refine bs_ls rfl rfl [_] [m] (by simp only [List.map_toArray, List.map_cons, List.map_nil]; rfl) (bsl1 _ _ _ _) rfl (by decide) rfl (each1 hx.sl) ?_; intro W2 ls2 b2 k2; have h2 := hT.keep b2; have st2 := stl_new (n := 1) [_] [m] hT b2 k2 rfl (by decide) rfl (eachS1 hx))
    | (go_at_call 80; refine (append_any _ _ _ _ _ _ _ _ h2 (by omega) st2).mono ?_; rw [flat_one]; rintro e W3 ⟨rfl, v3, h3, m3⟩))
  have mv3 := (mv_below (b := b) v b2).trans m3
  have hD3 := hD.mv hT mv3 (by decide) (by decide)
  have d0 := hD3.at (i := 0) rfl
  have hs3 := steps_ap S m
  have e07 := eq07
  have e57 := eq57
  have e67 := eq67
  have e5n := eq5n
  have e6n := eq6n
  have n5n := ne5n
  have n6n := ne6n
  clear m3 st2 h2 k2 ls2 b2 hx c0 hD
  rcases apN_of S m.length with hN | hN | hN | hN
  · have HN : Hid (wrN S m = stN (apS S m)) := if_pos hN
    have HS : Hid (wrS S m = if stN (apS S m) = 0 then syS (apS S m) else ctS (syS (apS S m))) := if_pos hN
    rw [errV_ok hN]
    generalize hAS : apS S m = A at *
    clear hN
    go_upto_region 6 with (go_at_call 81; refine (sync_any _ _ _ _ _ h3 (by omega)).mono ?_; rintro e W4 ⟨rfl, h4, m4⟩)
    have hD4 := hD3.mv h3 m4 (by decide) (by decide)
    have d4 := hD4.at (i := 0) rfl
    have mv4 := mv3.trans m4
    clear hD3 h3 d0 mv3 m4
    rcases stN_of A with hM | hM | hM
    · have HE : Hid (errV (wrN S m) = .nilIface) := by show _ = _; rw [HN.out, errV_ok hM]
      have HS2 : Hid (wrS S m = syS A) := HS.out.trans (if_pos hM)
      rw [errV_ok hM]
      go_wp2_with fail
      go_ret
      exact ⟨by rw [HE.out]; rfl, _, by rw [HS2.out]; exact h4, mv4⟩
    · have HE : Hid (errV (wrN S m) = Err 5) := by show _ = _; rw [HN.out, hM]; rfl
      have HS2 : Hid (wrS S m = ctS (syS A)) := HS.out.trans (if_neg (by omega))
      rw [hM, show errV 5 = Err 5 from rfl]
      go_wp2_with (go_at_call 82; refine (cut_any _ _ _ _ _ h4).mono ?_; rintro e W5 ⟨rfl, v5, h5, m5⟩)
      go_ret
      exact ⟨by rw [HE.out]; rfl, _, by rw [HS2.out]; exact h5, mv4.trans m5⟩
    · have HE : Hid (errV (wrN S m) = Err 6) := by show _ = _; rw [HN.out, hM]; rfl
      have HS2 : Hid (wrS S m = ctS (syS A)) := HS.out.trans (if_neg (by omega))
      rw [hM, show errV 6 = Err 6 from rfl]
      go_wp2_with (go_at_call 82; refine (cut_any _ _ _ _ _ h4).mono ?_; rintro e W5 ⟨rfl, v5, h5, m5⟩)
      go_ret
      exact ⟨by rw [HE.out]; rfl, _, by rw [HS2.out]; exact h5, mv4.trans m5⟩
  · have HE : Hid (errV (wrN S m) = Err 5) := by show _ = _; unfold wrN; rw [if_neg (by omega), hN]; rfl
    have HS2 : Hid (wrS S m = ctS (apS S m)) := by show _ = _; unfold wrS; rw [if_neg (by omega), if_neg (by omega)]
    rw [hN, show errV 5 = Err 5 from rfl]
    clear hN
    go_wp2_with (go_at_call 82; refine (cut_any _ _ _ _ _ h3).mono ?_; rintro e W5 ⟨rfl, v5, h5, m5⟩)
    go_ret
    exact ⟨by rw [HE.out]; rfl, _, by rw [HS2.out]; exact h5, mv3.trans m5⟩
  · have HE : Hid (errV (wrN S m) = Err 6) := by show _ = _; unfold wrN; rw [if_neg (by omega), hN]; rfl
    have HS2 : Hid (wrS S m = ctS (apS S m)) := by show _ = _; unfold wrS; rw [if_neg (by omega), if_neg (by omega)]
    rw [hN, show errV 6 = Err 6 from rfl]
    clear hN
    go_wp2_with (go_at_call 82; refine (cut_any _ _ _ _ _ h3).mono ?_; rintro e W5 ⟨rfl, v5, h5, m5⟩)
    go_ret
    exact ⟨by rw [HE.out]; rfl, _, by rw [HS2.out]; exact h5, mv3.trans m5⟩
  · have HE : Hid (errV (wrN S m) = Err 7) := by show _ = _; unfold wrN; rw [if_neg (by omega), hN]; rfl
    have HS2 : Hid (wrS S m = apS S m) := by show _ = _; unfold wrS; rw [if_neg (by omega), if_pos hN]
    have e7n := eq7n
    rw [hN, show errV 7 = Err 7 from rfl]
    clear hN
    go_wp2_with fail
    go_ret
    exact ⟨by rw [HE.out]; rfl, _, by rw [HS2.out]; exact h3, mv3⟩
end Go.Proofs.YthmolbcnbcajdaaGreat
namespace Go.Proofs.YthmolbcnbcajdaaGreat
open Go.RowKit
set_option linter.unusedVariables false
set_option maxRecDepth 100000

theorem wrN_of (S : TS) (m : List Nat) : wrN S m = 0 ∨ wrN S m = 5 ∨ wrN S m = 6 ∨ wrN S m = 7 := by
  unfold wrN
  split
  · rcases stN_of (apS S m) with h | h | h <;> simp [h]
  · exact apN_of S _
/-- Whatever turns in the diary's block and in the tape's memory: a third one. -/
theorem tp_far {w : World} {base b d nr ns : Nat} {v : Value} {S : TS} (hT : Tp w base b v S) (hD : Blk w d (dcs b nr ns) 91) : b ≠ d ∧ v.ownBlock ≠ some d :=
  ⟨Ne.symm (blk_ne hD hT.blk (by decide)), blk_own hT.own hD (by decide)⟩
theorem Mw.refl (b r : Nat) (w : World) (v : Value) : Mw b r w w v v := (Mv.refl b w v).mw r
theorem mw_below {b r : Nat} {w w' : World} (v : Value) (h : Below w.heap.size w w') : Mw b r w w' v v := (mv_below v h).mw r
set_option maxHeartbeats 1000000 in
theorem dadd_any (base b d nr ns : Nat) (v x : Value) (m : List Nat) (S : TS) (w : World) (hT : Tp w base b v S) (hst : S.steps < 4611686018427387000) (hD : Blk w d (dcs b nr ns) 91) (hx : Sl w x m) (hb : Byt m) (hm : m.length ≤ 16376) (hnr : nr ≤ 4611686018427387904) (hns : ns ≤ 4611686018427387904) :
    Calls Tryz.prog 32 #[tptr d, x] w fun e w' => e = .returned (errV (wrN S (frm m))) ∧ ∃ v', Tp w' base b v' (wrS S (frm m)) ∧ Mw b d w w' v v' ∧ (wrN S (frm m) = 0 → Blk w' d (dcs b (nr + 1) (ns + (8 + m.length))) 91) ∧ (wrN S (frm m) ≠ 0 → Blk w' d (dcs b nr ns) 91) := by
  obtain ⟨qx, nx, cx, ex⟩ := hx.slice
  subst ex
  have HL : Hid ((frm m).length = 8 + m.length) := frm_len m
  have n5n := ne5n
  have n6n := ne6n
  have n7n := ne70
  go_enter Tryz.func32, Tryz.ntmps32
  go_upto_region 7 with (first
    | (refine bs_ls rfl rfl [_] [m] (by simp only [List.map_toArray, List.map_cons, List.map_nil]; rfl) (bsl1 _ _ _ _) rfl (by decide) rfl (each1 hx) ?_; intro W2 ls2 b2 k2)
    | (go_at_call 53; refine (wrap_ok _ _ _ _ ls2 (by intro l hl; simp at hl; subst hl; exact hb) (by rw [flat_one]; exact hm)).mono ?_; rw [flat_one]; rintro e W3 ⟨v3, rfl, O3, -, b3⟩; obtain ⟨q3, c3, e3⟩ := O3.form; rw [HL.out] at e3; subst e3; have h3 := (hT.keep b2).keep b3; have hD3 := (hD.keep b2).keep b3; have t3 := stb_own (hT.keep b2) O3)
    | (go_at_call 55; refine (write_any _ _ _ _ _ _ _ _ _ _ h3 (by omega) hD3 t3).mono ?_; rintro e W4 ⟨rfl, v4, h4, m4⟩))
  have mv4 := ((mv_below (b := b) v b2).trans (mv_below v b3)).trans m4
  have hD4 := hD3.mv h3 m4 (by decide) (by decide)
  obtain ⟨far1, far2⟩ := tp_far h4 hD4
  have d1 := hD4.at (i := 1) rfl
  have d2 := hD4.at (i := 2) rfl
  have f1 := hD4.frozen 1
  have f2 := hD4.frozen 2
  clear m4 t3 h3 hD3 b3 b2 ls2 k2 O3 hT hD hx hb
  rcases wrN_of S (frm m) with hN | hN | hN | hN
  · have HN : Hid (wrN S (frm m) = 0) := hN
    rw [errV_ok hN]
    clear hN
    generalize hml : m.length = nm at *
    go_wp2_with fail
    go_ret
    have hB := (hD4.set 1 (.int .i64 (((nr + 1 : Nat) : Int)))).set 2 (.int .i64 ((ns + (8 + nm) : Nat) : Int))
    have k5 : Chg d W4 _ := (chg_set W4 d 1 (.int .i64 (((nr + 1 : Nat) : Int)))).trans (chg_set _ d 2 (.int .i64 ((ns + (8 + nm) : Nat) : Int)))
    refine ⟨by rw [HN.out]; rfl, v4, h4.chgO k5 far1 far2, (mv4.mw d).trans (k5.mw b v4), fun _ => by rw [hml]; exact hB, fun h => absurd HN.out h⟩
  · have HN : Hid (wrN S (frm m) = 5) := hN
    rw [hN, show errV 5 = Err 5 from rfl]
    clear hN
    go_wp2_with fail
    go_ret
    exact ⟨by rw [HN.out]; rfl, v4, h4, mv4.mw d, fun h => (by rw [HN.out] at h; cases h), fun _ => hD4⟩
  · have HN : Hid (wrN S (frm m) = 6) := hN
    rw [hN, show errV 6 = Err 6 from rfl]
    clear hN
    go_wp2_with fail
    go_ret
    exact ⟨by rw [HN.out]; rfl, v4, h4, mv4.mw d, fun h => (by rw [HN.out] at h; cases h), fun _ => hD4⟩
  · have HN : Hid (wrN S (frm m) = 7) := hN
    rw [hN, show errV 7 = Err 7 from rfl]
    clear hN
    go_wp2_with fail
    go_ret
    exact ⟨by rw [HN.out]; rfl, v4, h4, mv4.mw d, fun h => (by rw [HN.out] at h; cases h), fun _ => hD4⟩
/-- A row that is too long. -/
theorem dadd_no (p : Option Addr) (x : Value) (m : List Nat) (w : World) (hx : Sl w x m) (hm : 16376 < m.length) (hr : m.length ≤ 200000000000000) :
    Calls Tryz.prog 32 #[.pointer p, x] w fun e w' => e = .returned (Err 7) ∧ Below w.heap.size w w' := by
  obtain ⟨qx, nx, cx, ex⟩ := hx.slice
  subst ex
  have n7n := ne70
  go_enter Tryz.func32, Tryz.ntmps32
  go_wp2_with (first
    | (refine bs_ls rfl rfl [_] [m] (by simp only [List.map_toArray, List.map_cons, List.map_nil]; rfl) (bsl1 _ _ _ _) rfl (by decide) rfl (each1 hx) ?_; intro W2 ls2 b2 k2)
    | (go_at_call 53; refine (wrap_noL _ _ _ _ ls2 (by intro l hl; simp at hl; subst hl; exact hr) (by rw [flat_one]; exact hm)).mono ?_; rintro e W3 ⟨rfl, b3⟩))
  go_ret
  exact ⟨rfl, ab_trans b2 b3⟩
theorem dadd_nil (x : Value) (m : List Nat) (w : World) (hx : Sl w x m) (hb : Byt m) (hm : m.length ≤ 16376) :
    Calls Tryz.prog 32 #[.pointer none, x] w fun e w' => e = .returned (Err 5) ∧ Below w.heap.size w w' := by
  obtain ⟨qx, nx, cx, ex⟩ := hx.slice
  subst ex
  have HL : Hid ((frm m).length = 8 + m.length) := frm_len m
  go_enter Tryz.func32, Tryz.ntmps32
  go_wp2_with (first
    | (refine bs_ls rfl rfl [_] [m] (by simp only [List.map_toArray, List.map_cons, List.map_nil]; rfl) (bsl1 _ _ _ _) rfl (by decide) rfl (each1 hx) ?_; intro W2 ls2 b2 k2)
    | (go_at_call 53; refine (wrap_ok _ _ _ _ ls2 (by intro l hl; simp at hl; subst hl; exact hb) (by rw [flat_one]; exact hm)).mono ?_; rw [flat_one]; rintro e W3 ⟨v3, rfl, O3, -, b3⟩; obtain ⟨q3, c3, e3⟩ := O3.form; rw [HL.out] at e3; subst e3))
  go_ret
  exact ⟨rfl, ab_trans b2 b3⟩
theorem dlen_any (b d nr ns : Nat) (w : World) (hD : Blk w d (dcs b nr ns) 91) : Calls Tryz.prog 28 #[tptr d] w fun e w' => e = .returned (.int .i64 ((nr : Nat) : Int)) ∧ w' = w := by
  have d1 := hD.at (i := 1) rfl
  go_enter Tryz.func28, Tryz.ntmps28
  go_wp2_with fail
  go_ret
  exact ⟨rfl, rfl⟩
theorem dlen_nil (w : World) : Calls Tryz.prog 28 #[.pointer none] w fun e w' => e = .returned (.int .i64 0) ∧ w' = w := by
  go_enter Tryz.func28, Tryz.ntmps28
  go_wp2_with fail
  go_ret
  exact ⟨rfl, rfl⟩
theorem dopen_nil (w : World) : Calls Tryz.prog 19 #[.pointer none] w fun e w' => e = .returned (.tuple #[.pointer none, .slice none 0 0, Err 5]) ∧ w' = w := by
  go_enter Tryz.func19, Tryz.ntmps19
  go_wp2_with (go_at_call 39; refine (down_nil _).mono ?_; rintro e X ⟨rfl, hX⟩; subst X)
  go_ret3
  exact ⟨rfl, rfl⟩
end Go.Proofs.YthmolbcnbcajdaaGreat
namespace Go.Proofs.YthmolbcnbcajdaaGreat
open Go.RowKit
set_option linter.unusedVariables false
set_option maxRecDepth 100000

section
variable {ops : Array Oper} {rest : List Oper} {o : Oper} {a : Act} {w : World} {Q : Exit → Act → World → Prop}
/-- 'b[:j]' of own bytes. -/
theorem slb_hO (hw : Region.wanted o (yielded ops a.tmps) = true) {x z : Operand} (ho : o.op = .slice 68 x none (some z) none) {base : Nat} {q : Option Addr} {n cap : Nat} {J : Int} {kj : IntKind} {l : List Nat} (j : Nat)
    (hx : a.eval x = .slice q n cap) (hz : a.eval z = .int kj J) (hJ : J = (j : Int)) (h2 : j ≤ n) (hown : w.ownsRow base 5 1 (.slice q n cap) n (bys l))
    (hK : w.ownsRow base 5 1 (.slice q j cap) j (bys (l.take j)) → wpList Tryz.prog ops Q rest (a.put o.dst (.slice q j cap)) w) : wpList Tryz.prog ops Q (o :: rest) a w := by
  obtain ⟨e, h3, h4, h5⟩ := cut_own hown h2
  have hr := slb_h_run (w := w) ho hx hz hJ h4
  rw [e] at hr
  exact valS hw _ hr (hK h3)
end
theorem Ow.at {W W' : World} {base : Nat} {v : Value} {l : List Nat} (h : Ow W base v l) (he : ∀ k, base ≤ k → k < W.heap.size → W'.heap[k]? = W.heap[k]?) : Ow W' base v l :=
  own_at h fun g hg => he g (h.lt g hg).1 (h.lt g hg).2
theorem Bag.at {W W' : World} {base : Nat} {vs : List Value} {ls : List (List Nat)} (h : Bag W base vs ls) (he : ∀ k, base ≤ k → k < W.heap.size → W'.heap[k]? = W.heap[k]?) : Bag W' base vs ls :=
  ⟨h.1, fun j v l hv hl => (h.2 j v l hv hl).at he, h.3⟩
theorem Lis.at {W W' : World} {base : Nat} {v : Value} {vs : List Value} {ls : List (List Nat)} (h : Lis W base v vs ls) (he : ∀ k, base ≤ k → k < W.heap.size → W'.heap[k]? = W.heap[k]?) : Lis W' base v vs ls :=
  ⟨own_at h.row fun g hg => he g (h.row.lt g hg).1 (h.row.lt g hg).2, h.bag.at he, h.sep⟩
theorem Lis.less {W : World} {base base' : Nat} {v : Value} {vs : List Value} {ls : List (List Nat)} (h : Lis W base v vs ls) (hb : base' ≤ base) : Lis W base' v vs ls :=
  ⟨own_less h.row hb, ⟨h.bag.1, fun j v l hv hl => (h.bag.2 j v l hv hl).less hb, h.bag.3⟩, h.sep⟩
theorem Lis.ls {W : World} {base : Nat} {v : Value} {vs : List Value} {ls : List (List Nat)} (h : Lis W base v vs ls) : Ls W v vs ls := h.bag.ls h.row
/-- What is younger than the tape's memory stays. -/
theorem mv_young {W w w' : World} {base b : Nat} {v v' : Value} {S : TS} (hT : Tp W base b v S) (m : Mv b w w' v v') (k : Nat) (h1 : W.heap.size ≤ k) (h2 : k < w.heap.size) : w'.heap[k]? = w.heap[k]? :=
  m.other k h2 (by have := hT.blk.lt; omega) (fun e => by have := (hT.own.lt k e).2; omega)
/-- What an Open answers. -/
def OpR (w w' : World) (b : Nat) (S : TS) (e : Ending) : Prop :=
  (opN S ≠ 0 → e = .returned (.tuple #[.pointer none, .slice none 0 0, Err ((opN S : Nat) : Int)])) ∧
  (opN S = 0 → ∃ d vl vs, e = .returned (.tuple #[tptr d, vl, .nilIface]) ∧ w.heap.size ≤ d ∧ Blk w' d (dcs b (spt S.l).length (spN (spt S.l))) 91 ∧ Lis w' w.heap.size vl vs (spt S.l))
set_option maxHeartbeats 1000000 in
theorem dopen_any (base b : Nat) (v : Value) (S : TS) (w : World) (hT : Tp w base b v S) (hst : S.steps < 4611686018427387000) (hby : Byt S.l) :
    Calls Tryz.prog 19 #[tptr b] w fun e w' => OpR w w' b S e ∧ ∃ v', Tp w' base b v' (opS S) ∧ Mv b w w' v v' := by
  have c7 := hT.oct.c7
  by_cases hd : S.down = true
  · have hN : Hid (opN S = 5) := if_pos hd
    have hS : Hid (opS S = S) := if_pos hd
    rw [hd] at c7
    go_enter Tryz.func19, Tryz.ntmps19
    go_wp2_with (go_at_call 39; refine (down_any b _ _ c7).mono ?_; rintro e W1 ⟨rfl, hW1⟩; subst W1)
    go_ret3
    exact ⟨⟨fun _ => by rw [hN.out]; rfl, fun h => by rw [hN.out] at h; cases h⟩, v, by rw [hS.out]; exact hT, Mv.refl _ _ _⟩
  · have hmx := hT.max
    have hle := spt_le S.l hby
    have hfew := spt_few S.l hby
    have hd' : S.down = false := by simpa using hd
    rw [hd'] at c7
    go_enter Tryz.func19, Tryz.ntmps19
    go_upto_region 5 with (first
      | (go_at_call 39; refine (down_any b _ _ c7).mono ?_; rintro e W1 ⟨rfl, hW1⟩; subst W1)
      | (go_at_call 40; refine (tread_any _ _ _ _ _ hT).mono ?_; rintro e W1 ⟨v1, rfl, O1, b1⟩; obtain ⟨q1, c1, e1⟩ := O1.form; subst e1; have h1 := hT.keep b1)
      | (go_at_call 41; refine (split_any _ _ _ O1.sl hby hmx).mono ?_; rintro e W2 ⟨vl, vs, rfl, L2, b2⟩; have h2 := h1.keep b2))
    have O2 := O1.keep b2
    have hlen := L2.ls.len
    obtain ⟨ql, nl, cl, el, hnl⟩ : ∃ q n c, vl = .slice q n c ∧ n = (spt S.l).length := by
      obtain ⟨q, c, e, -⟩ := L2.ls.row
      exact ⟨q, _, c, e, L2.ls.len⟩
    subst el
    have mv2 := (mv_below (b := b) v b1).trans (mv_below v b2)
    clear O1
    generalize hsp : spN (spt S.l) = sp at *
    generalize hn : S.l.length = n at *
    generalize hF : spt S.l = F at *
    by_cases hlt : sp < n
    · have hN : Hid (opN S = stN S) := by show _ = _; unfold opN; rw [if_neg hd, hF, hsp, hn, if_pos hlt]
      have hS : Hid (opS S = rpS S (S.l.take sp)) := by show _ = _; unfold opS; rw [if_neg hd, hF, hsp, hn, if_pos hlt]
      have hlti : (sp : Int) < (n : Int) := by omega
      have HL : Hid ((S.l.take sp).length = sp) := by show _ = _; rw [List.length_take]; omega
      have HR : Hid (rpN S sp = stN S) := if_pos (by omega)
      have hn5 := ne5n
      have hn6 := ne6n
      have O2' : W2.ownsRow w.heap.size 5 1 (.slice q1 n c1) n (bys S.l) := by have := O2; unfold Ow at this; rwa [hn] at this
      go_upto_region 7 with (first
        | (refine slb_hO rfl rfl sp rfl rfl rfl (by omega) O2' ?_; intro O3)
        | (go_at_call 42; refine (replace_any _ _ _ _ _ _ _ h2 (by omega) (stb_own hT O3)).mono ?_; rw [HL.out, HR.out]; rintro e W3 ⟨rfl, v3, h3, m3⟩))
      have L3 := L2.at (mv_young h1 m3)
      have mv3 := mv2.trans m3
      clear O2 O2' O3 L2 mv2 h2
      rcases stN_of S with h0 | h0 | h0
      · rw [errV_ok h0]
        have HN0 : Hid (opN S = 0) := hN.out.trans h0
        go_wp2_with fail
        go_ret3
        subst hnl
        have ba : Below W3.heap.size W3 (W3.alloc (.cells (dcs b F.length sp) 91)) := (Below.refl _ _).alloc (Nat.le_refl _) _
        exact ⟨⟨fun h => absurd HN0.out h, fun _ => ⟨W3.heap.size, _, vs, rfl, mv3.size, by rw [hF, hsp]; exact Blk.new _ _ _, by rw [hF]; exact (L3.less b1.size).keep ba⟩⟩, v3, by rw [hS.out]; exact h3.keep ba, mv3.trans (mv_below v3 ba)⟩
      · rw [h0, show errV 5 = Err 5 from rfl]
        have HN0 : Hid (opN S = 5) := hN.out.trans h0
        go_wp2_with fail
        go_ret3
        exact ⟨⟨fun _ => by rw [HN0.out]; rfl, fun h => by rw [HN0.out] at h; cases h⟩, v3, by rw [hS.out]; exact h3, mv3⟩
      · rw [h0, show errV 6 = Err 6 from rfl]
        have HN0 : Hid (opN S = 6) := hN.out.trans h0
        go_wp2_with fail
        go_ret3
        exact ⟨⟨fun _ => by rw [HN0.out]; rfl, fun h => by rw [HN0.out] at h; cases h⟩, v3, by rw [hS.out]; exact h3, mv3⟩
    · have hN : Hid (opN S = 0) := by show _ = _; unfold opN; rw [if_neg hd, hF, hsp, hn, if_neg hlt]
      have hS : Hid (opS S = S) := by show _ = _; unfold opS; rw [if_neg hd, hF, hsp, hn, if_neg hlt]
      have hlti : ¬ (sp : Int) < (n : Int) := by omega
      go_wp2_with fail
      go_ret3
      subst hnl
      have ba : Below W2.heap.size W2 (W2.alloc (.cells (dcs b F.length sp) 91)) := (Below.refl _ _).alloc (Nat.le_refl _) _
      exact ⟨⟨fun h => absurd hN.out h, fun _ => ⟨W2.heap.size, _, vs, rfl, mv2.size, by rw [hF, hsp]; exact Blk.new _ _ _, by rw [hF]; exact (L2.less b1.size).keep ba⟩⟩, v, by rw [hS.out]; exact h2.keep ba, mv2.trans (mv_below v ba)⟩
end Go.Proofs.YthmolbcnbcajdaaGreat
namespace Go.Proofs.YthmolbcnbcajdaaGreat
open Go.RowKit
set_option linter.unusedVariables false
set_option maxRecDepth 100000

/-- Rows that together find room. -/
def rwOK (ls : List (List Nat)) : Bool := ls.all (fun r => decide (r.length ≤ 16376)) && decide (spN ls ≤ 1048576)
theorem rwOK_iff (ls : List (List Nat)) : rwOK ls = true ↔ (∀ r ∈ ls, r.length ≤ 16376) ∧ spN ls ≤ 1048576 := by simp [rwOK]
/-- A Rewrite's error, and the tape behind it. -/
def rwN (S : TS) (ls : List (List Nat)) : Nat := if rwOK ls = true then stN S else 7
def rwS (S : TS) (ls : List (List Nat)) : TS := if rwOK ls = true then rpS S (frms ls) else S
theorem spN_next (ls : List (List Nat)) (k : Nat) (l : List Nat) (h : ls[k]? = some l) : spN (ls.take (k + 1)) = spN (ls.take k) + (8 + l.length) := by rw [List.take_add_one, h]; exact spN_snoc _ _
theorem frms_next (ls : List (List Nat)) (k : Nat) (l : List Nat) (h : ls[k]? = some l) : frms (ls.take (k + 1)) = frms (ls.take k) ++ frm l := by rw [List.take_add_one, h]; exact frms_snoc _ _
theorem spN_mono (ls : List (List Nat)) (k : Nat) : spN (ls.take k) ≤ spN ls := by
  have := spN_app (ls.take k) (ls.drop k)
  rw [List.take_append_drop] at this
  omega
theorem all_next {p : List Nat → Prop} (ls : List (List Nat)) (k : Nat) (l : List Nat) (h : ls[k]? = some l) (ha : ∀ r ∈ ls.take k, p r) (hl : p l) : ∀ r ∈ ls.take (k + 1), p r := by
  rw [List.take_add_one, h]
  intro r hr
  rcases List.mem_append.1 hr with h1 | h1
  · exact ha r h1
  · simp at h1; subst h1; exact hl
set_option maxHeartbeats 2000000 in
theorem drewrite_any (base b d nr ns : Nat) (v x : Value) (vs : List Value) (ls : List (List Nat)) (S : TS) (w : World) (hT : Tp w base b v S) (hst : S.steps < 4611686018427387000) (hD : Blk w d (dcs b nr ns) 91) (hx : Ls w x vs ls) (hb : ∀ l ∈ ls, Byt l) (hr14 : ∀ l ∈ ls, l.length ≤ 200000000000000) :
    Calls Tryz.prog 30 #[tptr d, x] w fun e w' => e = .returned (errV (rwN S ls)) ∧ ∃ v', Tp w' base b v' (rwS S ls) ∧ Mw b d w w' v v' ∧ (rwN S ls = 0 → Blk w' d (dcs b ls.length (spN ls)) 91) ∧ (rwN S ls ≠ 0 → Blk w' d (dcs b nr ns) 91) := by
  obtain ⟨q, cap, g, off, ep, hc, hm, hp, hg, hr⟩ := hx.open
  have hlen := hx.len
  subst ep
  generalize hn : ls.length = n at *
  have n7n := ne70
  go_enter Tryz.func30, Tryz.ntmps30
  go_wp2_with fail
  go_loopw [5, 17] (fun y i wr => ∃ k : Nat, k ≤ n ∧ i = .int .i64 (k : Int) ∧ Ow wr w.heap.size y (frms (ls.take k)) ∧ (∀ r ∈ ls.take k, r.length ≤ 16376) ∧ spN (ls.take k) ≤ 1048576 ∧ Below w.heap.size w wr) (fun _ i _ => n - (intOf i).toNat)
  case atStart => exact ⟨0, by omega, rfl, World.ownsRow_nil _ _ _ _, by simp, by simp [spN], Below.refl _ _⟩
  case round =>
    obtain ⟨k, hk, rfl, HO, hall, hsp, hbw⟩ := hrel
    by_cases c : k = n
    · subst c
      rw [List.take_of_length_le (by omega)] at HO hall hsp
      have hok := (rwOK_iff ls).2 ⟨hall, hsp⟩
      have HN : Hid (rwN S ls = stN S) := if_pos hok
      have HS : Hid (rwS S ls = rpS S (frms ls)) := if_pos hok
      have hl8 := frms_len ls
      have HR : Hid (rpN S (frms ls).length = stN S) := if_pos (by omega)
      have hTr := hT.keep hbw
      have hDr := hD.keep hbw
      have d0 := hDr.at (i := 0) rfl
      have t0 := stb_own hT HO
      obtain ⟨qa, ca, ea⟩ := HO.form
      rw [hl8] at ea
      subst ea
      have n5n := ne5n
      have n6n := ne6n
      clear hr hp hg hb hr14 hall hok HO hT hD hx
      go_upto_region 15 with (go_at_call 42; refine (replace_any _ _ _ _ _ _ _ hTr (by omega) t0).mono ?_; rw [HR.out]; rintro e W4 ⟨rfl, v4, h4, m4⟩)
      have mv4 := (mv_below (b := b) v hbw).trans m4
      have hD4 := hDr.mv hTr m4 (by decide) (by decide)
      obtain ⟨far1, far2⟩ := tp_far h4 hD4
      have d1 := hD4.at (i := 1) rfl
      have d2 := hD4.at (i := 2) rfl
      have f1 := hD4.frozen 1
      have f2 := hD4.frozen 2
      clear m4 t0 hTr hDr d0 hbw
      rcases stN_of S with h0 | h0 | h0
      · have HN0 : Hid (rwN S ls = 0) := HN.out.trans h0
        rw [errV_ok h0]
        generalize hsl : spN ls = sp at *
        go_wp2_with fail
        go_ret
        have hB := (hD4.set 1 (.int .i64 ((k : Nat) : Int))).set 2 (.int .i64 ((sp : Nat) : Int))
        have k5 : Chg d W4 _ := (chg_set W4 d 1 (.int .i64 ((k : Nat) : Int))).trans (chg_set _ d 2 (.int .i64 ((sp : Nat) : Int)))
        exact ⟨by rw [HN0.out]; rfl, v4, by rw [HS.out]; exact h4.chgO k5 far1 far2, (mv4.mw d).trans (k5.mw b v4), fun _ => by rw [hsl]; exact hB, fun h => absurd HN0.out h⟩
      · have HN0 : Hid (rwN S ls = 5) := HN.out.trans h0
        rw [h0, show errV 5 = Err 5 from rfl]
        go_wp2_with fail
        go_ret
        exact ⟨by rw [HN0.out]; rfl, v4, by rw [HS.out]; exact h4, mv4.mw d, fun h => (by rw [HN0.out] at h; cases h), fun _ => hD4⟩
      · have HN0 : Hid (rwN S ls = 6) := HN.out.trans h0
        rw [h0, show errV 6 = Err 6 from rfl]
        go_wp2_with fail
        go_ret
        exact ⟨by rw [HN0.out]; rfl, v4, by rw [HS.out]; exact h4, mv4.mw d, fun h => (by rw [HN0.out] at h; cases h), fun _ => hD4⟩
    · obtain ⟨y, hy⟩ : ∃ y, vs[k]? = some y := ⟨vs[k], List.getElem?_eq_getElem (by omega)⟩
      obtain ⟨l, hl⟩ : ∃ l, ls[k]? = some l := ⟨ls[k], List.getElem?_eq_getElem (by omega)⟩
      obtain rfl := hp (by omega)
      have dy := keep_cell hbw (hr k y hy) (hg (by omega))
      have sy := (hx.each k y l hy hl).keep hbw
      have hlm := List.mem_of_getElem? hl
      have hbl := hb l hlm
      have hl14 := hr14 l hlm
      obtain ⟨qy, ny, cy, ey⟩ := sy.slice
      have hki : (k : Int) < (n : Int) := by omega
      have hkn : k < n := by omega
      have HT1 : Hid (spN (ls.take (k + 1)) = spN (ls.take k) + (8 + l.length)) := spN_next ls k l hl
      have HT2 : Hid (frms (ls.take (k + 1)) = frms (ls.take k) ++ frm l) := frms_next ls k l hl
      have HT3 : Hid (l.length ≤ 16376 → ∀ r ∈ ls.take (k + 1), r.length ≤ 16376) := fun h => all_next ls k l hl hall h
      have hmo := spN_mono ls (k + 1)
      rw [HT1.out] at hmo
      subst ey
      have hl8 := frms_len (ls.take k)
      obtain ⟨qa, ca, ea⟩ := HO.form
      rw [hl8] at ea
      subst ea
      have HLf : Hid ((frm l).length = 8 + l.length) := frm_len l
      by_cases hbig : 16376 < l.length
      · have hno : ¬ rwOK ls = true := fun h => by have := ((rwOK_iff ls).1 h).1 l hlm; omega
        have HN : Hid (rwN S ls = 7) := if_neg hno
        have HS : Hid (rwS S ls = S) := if_neg hno
        clear hno hr hp hg hb hr14 hall hx hy hl hlm HT1 HT2 HT3 hmo
        go_wp2_with (first
          | (refine bs_ls rfl rfl [_] [l] (by simp only [List.map_toArray, List.map_cons, List.map_nil]; rfl) (bsl1 _ _ _ _) rfl (by decide) rfl (each1 sy) ?_; intro W2 ls2 b2 k2)
          | (go_at_call 53; refine (wrap_noL _ _ _ _ ls2 (by intro l' hl'; simp at hl'; subst hl'; exact hl14) (by rw [flat_one]; exact hbig)).mono ?_; rintro e W3 ⟨rfl, b3⟩))
        go_ret
        have hb3 := ab_trans (ab_trans hbw b2) b3
        exact ⟨by rw [HN.out]; rfl, v, by rw [HS.out]; exact hT.keep hb3, mw_below v hb3, fun h => (by rw [HN.out] at h; cases h), fun _ => hD.keep hb3⟩
      · generalize hsk : spN (ls.take k) = sk at *
        generalize hnl : l.length = nl at *
        by_cases hfull : 1048576 - sk < 8 + nl
        · have hno : ¬ rwOK ls = true := fun h => by have := ((rwOK_iff ls).1 h).2; omega
          have HN : Hid (rwN S ls = 7) := if_neg hno
          have HS : Hid (rwS S ls = S) := if_neg hno
          have hfi : (1048576 : Int) - (sk : Int) < 8 + (nl : Int) := by omega
          clear hno hr hp hg hb hr14 hall hx hy hl hlm HT1 HT2 HT3 hmo
          go_wp2_with (first
            | (refine bs_ls rfl rfl [_] [l] (by simp only [List.map_toArray, List.map_cons, List.map_nil]; rfl) (bsl1 _ _ _ _) rfl (by decide) rfl (each1 sy) ?_; intro W2 ls2 b2 k2)
            | (go_at_call 53; refine (wrap_ok _ _ _ _ ls2 (by intro l' hl'; simp at hl'; subst hl'; exact hbl) (by rw [flat_one]; omega)).mono ?_; rw [flat_one]; rintro e W3 ⟨v3, rfl, O3, -, b3⟩; obtain ⟨q3, c3, e3⟩ := O3.form; rw [HLf.out] at e3; subst e3))
          go_ret
          have hb3 := ab_trans (ab_trans hbw b2) b3
          exact ⟨by rw [HN.out]; rfl, v, by rw [HS.out]; exact hT.keep hb3, mw_below v hb3, fun h => (by rw [HN.out] at h; cases h), fun _ => hD.keep hb3⟩
        · have hfi : ¬ (1048576 : Int) - (sk : Int) < 8 + (nl : Int) := by omega
          have HX : Hid (∀ r ∈ ls.take (k + 1), r.length ≤ 16376) := HT3.out (by omega)
          have HO' : wr.ownsRow w.heap.size 5 1 (.slice qa sk ca) sk (bys (frms (ls.take k))) := by have := HO; unfold Ow at this; rwa [hl8] at this
          clear hr hp hg hb hr14 hall hx hy hl hlm HT3 hmo HO
          go_wp2_with (first
            | (refine bs_ls rfl rfl [_] [l] (by simp only [List.map_toArray, List.map_cons, List.map_nil]; rfl) (bsl1 _ _ _ _) rfl (by decide) rfl (each1 sy) ?_; intro W2 ls2 b2 k2)
            | (go_at_call 53; refine (wrap_ok _ _ _ _ ls2 (by intro l' hl'; simp at hl'; subst hl'; exact hbl) (by rw [flat_one]; omega)).mono ?_; rw [flat_one]; rintro e W3 ⟨v3, rfl, O3, -, b3⟩; obtain ⟨q3, c3, e3⟩ := O3.form; rw [HLf.out] at e3; subst e3; have hb3 := ab_trans (ab_trans hbw b2) b3; have HO3 := own_keep (own_keep HO' b2) b3)
            | (at_builtin; refine app_t w.heap.size rfl rfl rfl HO3 rfl O3.sl HLf.out (by omega) hb3.size ?_; intro v5 W5 hown5 hgr5 hat5))
          have hb5 := hb3.trans (below_own HO3 hb3.size hgr5)
          exact ⟨⟨k + 1, by omega, rfl, by rw [HT2.out]; exact ow_of hown5, HX.out, by rw [HT1.out]; omega, hb5⟩, by simp only [intOf]; omega⟩
/-- Rows without a diary. -/
def wtN (ls : List (List Nat)) : Nat := if ls.all (fun r => decide (r.length ≤ 16376)) = true then 5 else 7
set_option maxHeartbeats 1000000 in
theorem dwithout_any (x : Value) (vs : List Value) (ls : List (List Nat)) (w : World) (hx : Ls w x vs ls) (hb : ∀ l ∈ ls, Byt l) (hr14 : ∀ l ∈ ls, l.length ≤ 200000000000000) :
    Calls Tryz.prog 52 #[x] w fun e w' => e = .returned (Err ((wtN ls : Nat) : Int)) ∧ Below w.heap.size w w' := by
  obtain ⟨q, cap, g, off, ep, hc, hm, hp, hg, hr⟩ := hx.open
  have hlen := hx.len
  subst ep
  generalize hn : ls.length = n at *
  have n7n := ne70
  go_enter Tryz.func52, Tryz.ntmps52
  go_wp2_with fail
  go_loopw [9] (fun i wr => ∃ k : Nat, k ≤ n ∧ i = .int .i64 (k : Int) ∧ (∀ r ∈ ls.take k, r.length ≤ 16376) ∧ Below w.heap.size w wr) (fun i _ => n - (intOf i).toNat)
  case atStart => exact ⟨0, by omega, rfl, by simp, Below.refl _ _⟩
  case round =>
    obtain ⟨k, hk, rfl, hall, hbw⟩ := hrel
    by_cases c : k = n
    · subst c
      rw [List.take_of_length_le (by omega)] at hall
      have HN : Hid (wtN ls = 5) := if_pos (by simpa using hall)
      clear hr hp hg hb hr14 hall hx
      go_wp2_with fail
      go_ret
      exact ⟨by rw [HN.out]; rfl, hbw⟩
    · obtain ⟨y, hy⟩ : ∃ y, vs[k]? = some y := ⟨vs[k], List.getElem?_eq_getElem (by omega)⟩
      obtain ⟨l, hl⟩ : ∃ l, ls[k]? = some l := ⟨ls[k], List.getElem?_eq_getElem (by omega)⟩
      obtain rfl := hp (by omega)
      have dy := keep_cell hbw (hr k y hy) (hg (by omega))
      have sy := (hx.each k y l hy hl).keep hbw
      have hlm := List.mem_of_getElem? hl
      have hbl := hb l hlm
      have hl14 := hr14 l hlm
      obtain ⟨qy, ny, cy, ey⟩ := sy.slice
      have hki : (k : Int) < (n : Int) := by omega
      have hkn : k < n := by omega
      have HT3 : Hid (l.length ≤ 16376 → ∀ r ∈ ls.take (k + 1), r.length ≤ 16376) := fun h => all_next ls k l hl hall h
      subst ey
      have HLf : Hid ((frm l).length = 8 + l.length) := frm_len l
      by_cases hbig : 16376 < l.length
      · have HN : Hid (wtN ls = 7) := if_neg (fun h => by have := (List.all_eq_true.1 h) l hlm; simp at this; omega)
        clear hr hp hg hb hr14 hall hx hy hl hlm HT3
        go_wp2_with (first
          | (refine bs_ls rfl rfl [_] [l] (by simp only [List.map_toArray, List.map_cons, List.map_nil]; rfl) (bsl1 _ _ _ _) rfl (by decide) rfl (each1 sy) ?_; intro W2 ls2 b2 k2)
          | (go_at_call 53; refine (wrap_noL _ _ _ _ ls2 (by intro l' hl'; simp at hl'; subst hl'; exact hl14) (by rw [flat_one]; exact hbig)).mono ?_; rintro e W3 ⟨rfl, b3⟩))
        go_ret
        exact ⟨by rw [HN.out]; rfl, ab_trans (ab_trans hbw b2) b3⟩
      · have HX : Hid (∀ r ∈ ls.take (k + 1), r.length ≤ 16376) := HT3.out (by omega)
        clear hr hp hg hb hr14 hall hx hy hl hlm HT3
        go_wp2_with (first
          | (refine bs_ls rfl rfl [_] [l] (by simp only [List.map_toArray, List.map_cons, List.map_nil]; rfl) (bsl1 _ _ _ _) rfl (by decide) rfl (each1 sy) ?_; intro W2 ls2 b2 k2)
          | (go_at_call 53; refine (wrap_ok _ _ _ _ ls2 (by intro l' hl'; simp at hl'; subst hl'; exact hbl) (by rw [flat_one]; omega)).mono ?_; rw [flat_one]; rintro e W3 ⟨v3, rfl, O3, -, b3⟩; obtain ⟨q3, c3, e3⟩ := O3.form; rw [HLf.out] at e3; subst e3))
        exact ⟨⟨k + 1, by omega, rfl, HX.out, ab_trans (ab_trans hbw b2) b3⟩, by simp only [intOf]; omega⟩
theorem drewrite_nil (q : Option Addr) (nx cx : Nat) (vs : List Value) (ls : List (List Nat)) (w : World) (hx : Ls w (.slice q nx cx) vs ls) (hb : ∀ l ∈ ls, Byt l) (hr14 : ∀ l ∈ ls, l.length ≤ 200000000000000) :
    Calls Tryz.prog 30 #[.pointer none, .slice q nx cx] w fun e w' => e = .returned (Err ((wtN ls : Nat) : Int)) ∧ Below w.heap.size w w' := by
  go_enter Tryz.func30, Tryz.ntmps30
  go_wp2_with (go_at_call 52; refine (dwithout_any _ _ _ _ hx hb hr14).mono ?_; rintro e W2 ⟨rfl, b2⟩)
  go_ret
  exact ⟨rfl, b2⟩
end Go.Proofs.YthmolbcnbcajdaaGreat
namespace Go.Proofs.YthmolbcnbcajdaaGreat
open Go.RowKit
set_option linter.unusedVariables false
set_option maxRecDepth 100000

/-- Rows that fit. -/
def Rok (rs : List (List Nat)) : Prop := ∀ r ∈ rs, r.length ≤ 16376 ∧ Byt r
theorem Rok.len {rs : List (List Nat)} (h : Rok rs) : ∀ r ∈ rs, r.length ≤ 16376 := fun r hr => (h r hr).1
theorem Rok.byt {rs : List (List Nat)} (h : Rok rs) : ∀ r ∈ rs, Byt r := fun r hr => (h r hr).2
theorem Rok.nil : Rok [] := fun r hr => by cases hr
theorem Rok.snoc {rs : List (List Nat)} {m : List Nat} (h : Rok rs) (hm : m.length ≤ 16376) (hb : Byt m) : Rok (rs ++ [m]) := fun r hr => by
  rcases List.mem_append.1 hr with h1 | h1
  · exact h r h1
  · simp at h1; subst h1; exact ⟨hm, hb⟩
theorem dopen_up (base b : Nat) (v : Value) (rs : List (List Nat)) (s n : Nat) (w : World) (hT : Tp w base b v (up (frms rs) s n)) (hst : n < 4611686018427387000) (hrs : Rok rs) :
    Calls Tryz.prog 19 #[tptr b] w fun e w' => ∃ d q c vs v', e = .returned (.tuple #[tptr d, .slice q rs.length c, .nilIface]) ∧ w.heap.size ≤ d ∧ Blk w' d (dcs b rs.length (spN rs)) 91 ∧ Lis w' w.heap.size (.slice q rs.length c) vs rs ∧ Tp w' base b v' (up (frms rs) s n) ∧ Mv b w w' v v' := by
  refine (dopen_any base b v _ w hT hst (frms_byt hrs.byt)).mono ?_
  obtain ⟨h1, h2⟩ := op_up rs hrs.len s n
  rintro e w' ⟨⟨-, h3⟩, v', h4, h5⟩
  rw [h2] at h4
  obtain ⟨d, vl, vs, he, hd, hB, hL⟩ := h3 h1
  have e1 : spt (up (frms rs) s n).l = rs := spt_frms rs hrs.len
  rw [e1] at hB hL
  obtain ⟨q, c, e2, -⟩ := hL.ls.row
  rw [hL.ls.len] at e2
  subst e2
  exact ⟨d, q, c, vs, v', he, hd, hB, hL, h4, h5⟩
theorem dadd_up (base b d nr ns : Nat) (v x : Value) (l m : List Nat) (s n : Nat) (w : World) (hT : Tp w base b v (up l s n)) (hst : n < 4611686018427387000) (hD : Blk w d (dcs b nr ns) 91) (hx : Sl w x m) (hb : Byt m) (hm : m.length ≤ 16376) (hnr : nr ≤ 4611686018427387904) (hns : ns ≤ 4611686018427387904) (hfit : l.length + (8 + m.length) ≤ 1048576) :
    Calls Tryz.prog 32 #[tptr d, x] w fun e w' => e = .returned .nilIface ∧ ∃ v', Tp w' base b v' (up (l ++ frm m) (l.length + (8 + m.length)) (n + 2)) ∧ Mw b d w w' v v' ∧ Blk w' d (dcs b (nr + 1) (ns + (8 + m.length))) 91 := by
  obtain ⟨h1, h2⟩ := wr_up l (frm m) s n (by rw [frm_len]; exact hfit)
  refine (dadd_any base b d nr ns v x m _ w hT hst hD hx hb hm hnr hns).mono ?_
  rw [h1, h2, List.length_append, frm_len]
  rintro e w' ⟨rfl, v', h3, h4, h5, -⟩
  exact ⟨rfl, v', h3, h4, h5 rfl⟩
theorem Mw.blk {W W' : World} {b d : Nat} {v v' : Value} {k : Nat} {xs : Array Value} {t : TypeId} (m : Mw b d W W' v v') (h : Blk W k xs t) (h1 : k ≠ b) (h2 : k ≠ d) (h3 : v.ownBlock ≠ some k) : Blk W' k xs t := by
  unfold Blk
  rw [m.other k h.lt h1 h2 h3]
  exact h
theorem str_a : strB [97] = ⟨#[97]⟩ := by decide +kernel
theorem str_b : strB [98] = ⟨#[98]⟩ := by decide +kernel
theorem byt_a : Byt [97] := by intro x hx; simp at hx; omega
theorem byt_b : Byt [98] := by intro x hx; simp at hx; omega
abbrev tsA : TS := ⟨frm [97], 9, 2, true, 1, false, 0, false⟩
theorem alv_N : wrN tsA (frm [98]) = 5 := by decide +kernel
theorem alv_S : crS (wrS tsA (frm [98])) 100 = up (frms [[97], [98]]) 18 3 := by kernel_rfl
theorem rok_ab : Rok [[97], [98]] := by
  intro r hr
  simp at hr
  rcases hr with rfl | rfl
  · exact ⟨by decide, byt_a⟩
  · exact ⟨by decide, byt_b⟩
end Go.Proofs.YthmolbcnbcajdaaGreat
