/-
  The document's diary (estuaryref07): frames, Bytes.
  The document's diary (estuaryref07): Add, Rewrite.
  The document's diary (estuaryref07): Open.
  What comes in to DiaryPlays: a row of calls; estuarylaw07.long.
-/
import Derived.Test.YtalbiggmmmkclaaPk14
import Derived.Lib.ConvBytes
import Derived.Test.YtalbiggmmmkclaaPk12
namespace Go.Proofs.Ytalbiggmmmkclaa
open Go.RowKit
set_option linter.unusedVariables false
set_option maxRecDepth 100000

/-- '[]byte(s)' of a text. -/
theorem sb_run (l : List Nat) (hb : Byt l) (w : World) (hl : l.length ≤ 9223372036854775807) : ∃ c W', (convert 9 39 (.string (strB l))).run Try.prog w = .ok (.slice (some ⟨w.heap.size, 0, none⟩) l.length c) W' ∧ Sl W' (.slice (some ⟨w.heap.size, 0, none⟩) l.length c) l ∧ Below w.heap.size w W' := by
  have hsz : (strB l).size = l.length := strB_len l
  have hr := Go.Lib.run_convert_string_bytes (P := Try.prog) w 9 39 5 (strB l) Try.underlying9 Try.underlying39 Try.underlying5
  refine ⟨grownCap w l.length 0 5, Go.Lib.bytesWorld w 5 (strB l), ?_, ?_, ?_⟩
  · rw [hr, hsz]
  · have hge := grownCap_ge w l.length 0 5
    have hle := grownCap_le_maxLen w l.length 0 5 (by unfold maxLen; omega)
    refine sl_of (g := w.heap.size) (off := 0) rfl hge hle (fun _ => rfl) (fun _ => by rw [Go.Lib.bytesWorld_size]; omega) (fun j x hx => ?_)
    have hj : j < l.length := (List.getElem?_eq_some_iff.1 hx).1
    rw [Nat.zero_add, Go.Lib.bytesWorld_cell w 5 (strB l) j (by rw [hsz]; exact hj)]
    have hx256 := hb.at hx
    have e : (strB l).data.toList.getD j 0 = UInt8.ofNat x := by
      unfold strB
      rw [strOfNums_data]
      simp [List.getD, hx]
    rw [e]
    congr 2
    simp
    omega
  · refine ⟨rfl, rfl, rfl, by rw [Go.Lib.bytesWorld_size]; omega, fun k hk => Go.Lib.bytesWorld_at_old w 5 (strB l) k hk⟩
theorem sb_t {ops : Array Oper} {rest : List Oper} {o : Oper} {a : Act} {w : World} {Q : Exit → Act → World → Prop} (hw : Region.wanted o (yielded ops a.tmps) = true) {x : Operand} (ho : o.op = .convert 9 39 x) {l : List Nat} (hx : a.eval x = .string (strB l)) (hb : Byt l) (hl : l.length ≤ 9223372036854775807)
    (h : ∀ c W', Sl W' (.slice (some ⟨w.heap.size, 0, none⟩) l.length c) l → Below w.heap.size w W' → wpList Try.prog ops Q rest (a.put o.dst (.slice (some ⟨w.heap.size, 0, none⟩) l.length c)) W') : wpList Try.prog ops Q (o :: rest) a w := by
  obtain ⟨c, W', hr, h1, h2⟩ := sb_run l hb w hl
  unfold wpList
  rw [if_pos hw]
  left
  unfold Oper.wp execOp
  simp only [ho, Sem.run_bind, hx, hr, Result.andThen_ok]
  exact h c W' h1 h2
theorem rreplace_big (r : Nat) (S : TS) (m : List Nat) (w : World) (h : Rf w r S) (hm : m.length ≤ 1048576) (hst : S.steps < 4611686018427387904) (hoa : S.oa ≤ 9223372036854775807) (hra : S.ra ≤ 9223372036854775807) :
    Calls Try.prog 39 #[tptr r, .string (strB m)] w fun e w' => e = .returned (.int .i64 ((rpN S m.length : Nat) : Int)) ∧ Rf w' r (rpS S m) ∧ Chg r w w' := by
  have hfi : ¬ (1048576 : Int) < (m.length : Int) := by omega
  have zm : (strB m).size = m.length := strB_len m
  have HN : Hid (rpN S m.length = stN S) := if_pos (by omega)
  have HS : Hid (rpS S m = if stN S = 0 then { stS S with l := m, sure := m.length } else stS S) := if_pos (by omega)
  go_enter Try.func39, Try.ntmps39
  go_upto_region 4 with (go_at_call 53; refine (rstep_any r S _ h hst hoa hra).mono ?_; rintro e V2 ⟨rfl, h2, k2⟩)
  by_cases h0 : stN S = 0
  · have HS2 : Hid (rpS S m = { stS S with l := m, sure := m.length }) := HS.out.trans (if_pos h0)
    have HN2 : Hid (rpN S m.length = 0) := HN.out.trans h0
    rw [h0]
    clear h0 HN HS
    obtain ⟨ar, lf, un, hB, har, hlf, hun⟩ := h2
    have c0 := (octR hB).c0
    have c1 := (octR hB).c1
    have f0 := hB.frozen 0
    have f1 := hB.frozen 1
    go_wp2_with fail
    go_ret
    refine ⟨by rw [HN2.out]; rfl, ?_, (k2.trans (chg_set _ _ _ _)).trans (chg_set _ _ _ _)⟩
    rw [HS2.out]
    exact ⟨ar, lf, un, by rw [← rcs_eq (stS S) { stS S with l := m, sure := m.length } ar lf un m [] (by show m.take m.length = _; rw [List.take_length]) (by show m.drop m.length = _; rw [List.drop_length]) rfl rfl rfl]; exact (hB.set 0 _).set 1 _, har, hlf, hun⟩
  · have HS2 : Hid (rpS S m = stS S) := HS.out.trans (if_neg h0)
    have h0' : (((stN S : Nat) : Int) == 0) = false := by simp [h0]
    generalize hX : ((stN S : Nat) : Int) = X at *
    go_wp2_with fail
    go_ret
    exact ⟨by rw [HN.out, hX]; rfl, by rw [HS2.out]; exact h2, k2⟩

theorem spN_le (rs : List (List Nat)) (h : ∀ r ∈ rs, r.length ≤ 16376) : spN rs ≤ 16384 * rs.length := by
  induction rs with
  | nil => simp [spN]
  | cons r t ih =>
    have h1 := ih (fun x hx => h x (List.mem_cons_of_mem _ hx))
    have h2 := h r (List.mem_cons_self ..)
    simp only [spN, List.map_cons, List.sum_cons, List.length_cons] at h1 ⊢
    omega
set_option maxHeartbeats 1000000 in
theorem frames_any (y : Value) (ls : List (List Nat)) (w : World) (hy : Txs w y ls) (hb : ∀ l ∈ ls, Byt l) (hr14 : ∀ l ∈ ls, l.length ≤ 200000000000000) (h8 : ls.length ≤ 8000000000000) :
    Calls Try.prog 42 #[y] w fun e w' => (rwOK ls = true → e = .returned (.tuple #[.string (strB (frms ls)), .int .i64 0])) ∧ (rwOK ls = false → e = .returned (.tuple #[.string ⟨#[]⟩, .int .i64 7])) ∧ Below w.heap.size w w' := by
  obtain ⟨q, cap, g, off, ep, hc, hm, hp, hg, hr⟩ := hy
  subst ep
  generalize hn : ls.length = n at *
  have hse : (⟨#[]⟩ : ByteArray) = strB [] := rfl
  go_enter Try.func42, Try.ntmps42
  go_wp2_with fail
  go_loopw [4, 5] (fun s i wr => ∃ k : Nat, k ≤ n ∧ i = .int .i64 (k : Int) ∧ s = .string (strB (frms (ls.take k))) ∧ (∀ r ∈ ls.take k, r.length ≤ 16376) ∧ Below w.heap.size w wr) (fun _ i _ => n - (intOf i).toNat)
  case atStart => exact ⟨0, by omega, rfl, rfl, by simp, Below.refl _ _⟩
  case round =>
    obtain ⟨k, hk, rfl, rfl, hall, hbw⟩ := hrel
    have hsb := spN_le (ls.take k) hall
    have hkl : (ls.take k).length = k := by rw [List.length_take]; omega
    rw [hkl] at hsb
    have hfl := frms_len (ls.take k)
    have hss : (strB (frms (ls.take k))).size = spN (ls.take k) := by rw [strB_len, hfl]
    by_cases ck : k = n
    · subst ck
      rw [List.take_of_length_le (by omega)] at *
      by_cases hbig : 1048576 < spN ls
      · have hno : Hid (rwOK ls = false) := by
          show _ = _
          cases h : rwOK ls with
          | false => rfl
          | true => have := ((rwOK_iff ls).1 h).2; omega
        have hbi : (1048576 : Int) < ((spN ls : Nat) : Int) := by omega
        clear hr hp hg hb hr14 hall
        generalize spN ls = sp at *
        go_wp2_with fail
        go_ret2
        exact ⟨fun h => (by rw [hno.out] at h; cases h), fun _ => rfl, hbw⟩
      · have hok : Hid (rwOK ls = true) := (rwOK_iff ls).2 ⟨hall, by omega⟩
        have hbi : ¬ (1048576 : Int) < ((spN ls : Nat) : Int) := by omega
        clear hr hp hg hb hr14 hall
        generalize spN ls = sp at *
        go_wp2_with fail
        go_ret2
        exact ⟨fun _ => rfl, fun h => (by rw [hok.out] at h; cases h), hbw⟩
    · obtain ⟨l, hl⟩ : ∃ l, ls[k]? = some l := ⟨ls[k], List.getElem?_eq_getElem (by omega)⟩
      obtain rfl := hp (by omega)
      have dy := keep_cell hbw (hr k l hl) (hg (by omega))
      have hlm := List.mem_of_getElem? hl
      have hbl := hb l hlm
      have hl14 := hr14 l hlm
      have hki : (k : Int) < (n : Int) := by omega
      have hkn : k < n := by omega
      have HT2 : Hid (frms (ls.take (k + 1)) = frms (ls.take k) ++ frm l) := frms_next ls k l hl
      have HT3 : Hid (l.length ≤ 16376 → ∀ r ∈ ls.take (k + 1), r.length ≤ 16376) := fun h => all_next ls k l hl hall h
      have HLf : Hid ((frm l).length = 8 + l.length) := frm_len l
      by_cases hbig : 16376 < l.length
      · have hno : Hid (rwOK ls = false) := by
          show _ = _
          cases h : rwOK ls with
          | false => rfl
          | true => have := ((rwOK_iff ls).1 h).1 l hlm; omega
        clear hr hp hg hb hr14 hall hlm hl HT2 HT3
        go_wp2_with (first
          | (refine sb_t rfl rfl rfl hbl (by omega) ?_; intro c2 W2 s2 b2)
          | (go_at_call 57; refine (rwrap_no _ _ _ s2 hbig).mono ?_; rintro e W3 ⟨rfl, b3⟩))
        go_ret2
        exact ⟨fun h => (by rw [hno.out] at h; cases h), fun _ => rfl, ab_trans (ab_trans hbw b2) b3⟩
      · have HX : Hid (∀ r ∈ ls.take (k + 1), r.length ≤ 16376) := HT3.out (by omega)
        clear hr hp hg hb hr14 hall hlm hl HT3
        have hs2 : (strB (frm l)).size = 8 + l.length := by rw [strB_len, HLf.out]
        have hno63 : ¬ 9223372036854775807 < spN (ls.take k) + (8 + l.length) := by omega
        go_wp2_with (first
          | (refine sb_t rfl rfl rfl hbl (by omega) ?_; intro c2 W2 s2 b2)
          | (go_at_call 57; refine (rwrap_ok _ _ _ s2 hbl (by omega)).mono ?_; rintro e W3 ⟨v3, rfl, O3, b3⟩; have cv3 := sl_str O3.sl; obtain ⟨q3, c3, e3⟩ := O3.form; subst e3))
        exact ⟨⟨k + 1, by omega, rfl, by rw [HT2.out, ← strB_app], HX.out, ab_trans (ab_trans hbw b2) b3⟩, by simp only [intOf]; omega⟩
/-- Nothing but two blocks of those that were there has turned. -/
structure Mq (r q : Nat) (w w' : World) : Prop where
  os : w'.os = w.os
  tape : w'.tape = w.tape
  output : w'.output = w.output
  size : w.heap.size ≤ w'.heap.size
  other : ∀ k, k < w.heap.size → k ≠ r → k ≠ q → w'.heap[k]? = w.heap[k]?
theorem Mq.trans {r q : Nat} {w w' w'' : World} (h : Mq r q w w') (k : Mq r q w' w'') : Mq r q w w'' :=
  ⟨k.os.trans h.os, k.tape.trans h.tape, k.output.trans h.output, Nat.le_trans h.size k.size, fun i hi h1 h2 => (k.other i (Nat.lt_of_lt_of_le hi h.size) h1 h2).trans (h.other i hi h1 h2)⟩
theorem mq_below {r q : Nat} {w w' : World} (h : Below w.heap.size w w') : Mq r q w w' := ⟨h.os, h.tape, h.output, h.size, fun k hk _ _ => h.block k hk⟩
theorem Chg.mq1 {r q : Nat} {w w' : World} (h : Chg r w w') : Mq r q w w' := ⟨h.os, h.tape, h.output, Nat.le_of_eq h.size.symm, fun k _ h1 _ => h.other k h1⟩
theorem Chg.mq2 {r q : Nat} {w w' : World} (h : Chg q w w') : Mq r q w w' := ⟨h.os, h.tape, h.output, Nat.le_of_eq h.size.symm, fun k _ _ h2 => h.other k h2⟩
theorem Mq.below {A w w' : World} {r q : Nat} (h : Mq r q w w') (hr : A.heap.size ≤ r) (hq : A.heap.size ≤ q) (hw : A.heap.size ≤ w.heap.size) : Below A.heap.size w w' :=
  ⟨h.os, h.tape, h.output, h.size, fun k hk => h.other k (by omega) (by omega) (by omega)⟩
theorem Mq.blk {r q k : Nat} {w w' : World} {xs ys zs : Array Value} {t u s : TypeId} (h : Mq r q w w') (hB : Blk w k xs t) (hr : Blk w r ys u) (hq : Blk w q zs s) (h1 : t ≠ u) (h2 : t ≠ s) : Blk w' k xs t := by
  unfold Blk
  rw [h.other k hB.lt (blk_ne hB hr h1) (blk_ne hB hq h2)]
  exact hB
theorem Mq.own {r q base e n : Nat} {w w' : World} {x : Value} {xs : List Value} {ys zs : Array Value} {u s : TypeId} (h : Mq r q w w') (ho : w.ownsRow base e 1 x n xs) (hr : Blk w r ys u) (hq : Blk w q zs s) (h1 : u ≠ e) (h2 : s ≠ e) : w'.ownsRow base e 1 x n xs :=
  own_at ho fun g hg => h.other g (ho.lt g hg).2 (fun he => blk_own ho hr h1 (by rw [← he]; exact hg)) (fun he => blk_own ho hq h2 (by rw [← he]; exact hg))
/-- The document's diary: its tape, its rows. -/
abbrev mcs (r : Nat) (v : Value) : Array Value := #[tptr r, v]
set_option maxHeartbeats 1000000 in
theorem rbytes_any (r q : Nat) (v : Value) (rs : List (List Nat)) (w : World) (hM : Blk w q (mcs r v) 56) (ht : Txs w v rs) (hrs : Rok rs) (hsp : spN rs ≤ 1048576) :
    Calls Try.prog 31 #[tptr q] w fun e w' => e = .returned (.int .i64 ((spN rs : Nat) : Int)) ∧ Below w.heap.size w w' := by
  have c1 := hM.at (i := 1) rfl
  have hok := (rwOK_iff rs).2 ⟨hrs.len, hsp⟩
  have h8 := spN_len rs
  have hss : (strB (frms rs)).size = spN rs := by rw [strB_len, frms_len]
  obtain ⟨qv, cv, ev⟩ := ht.slice
  subst ev
  have HC := frames_any _ rs w ht hrs.byt (fun l hl => by have := hrs.len l hl; omega) (by omega)
  generalize rs.length = n at *
  go_enter Try.func31, Try.ntmps31
  go_wp2_with (go_at_call 42; refine HC.mono ?_; rintro e W1 ⟨h1, -, b1⟩; obtain rfl := h1 hok)
  go_ret
  exact ⟨rfl, b1⟩
end Go.Proofs.Ytalbiggmmmkclaa
namespace Go.Proofs.Ytalbiggmmmkclaa
open Go.RowKit
set_option linter.unusedVariables false
set_option maxRecDepth 100000

/-- A tape's bounds. -/
structure Wf (S : TS) : Prop where
  sure : S.sure ≤ S.l.length
  max : S.l.length ≤ 1048576
  oa : S.oa ≤ 9223372036854775807
  ra : S.ra ≤ 9223372036854775807
theorem Tp.wf {W : World} {base b : Nat} {v : Value} {S : TS} (h : Tp W base b v S) : Wf S := ⟨h.sure, h.max, h.bo, h.br⟩
theorem wf_st {S : TS} (h : Wf S) : Wf (stS S) := by
  have hl := stS_l S
  refine ⟨by rw [hl.1, hl.2]; exact h.sure, by rw [hl.1]; exact h.max, ?_, ?_⟩
  · unfold stS
    split
    · exact h.oa
    · split
      · exact duA_le h.oa
      · exact duA_le h.oa
  · unfold stS
    split
    · exact h.ra
    · split
      · exact h.ra
      · exact duA_le h.ra
theorem wf_ap {S : TS} (m : List Nat) (h : Wf S) : Wf (apS S m) := by
  have hs := wf_st h
  have hl := stS_l S
  unfold apS
  split
  · split
    · refine ⟨?_, ?_, hs.oa, hs.ra⟩
      · show (stS S).sure ≤ (S.l ++ m).length
        rw [List.length_append, hl.2]
        have := h.sure
        omega
      · show (S.l ++ m).length ≤ _
        rw [List.length_append]
        assumption
    · exact hs
  · exact h
theorem wf_sy {S : TS} (h : Wf S) : Wf (syS S) := by
  have hs := wf_st h
  have hl := stS_l S
  unfold syS
  split
  · exact ⟨by show S.l.length ≤ (stS S).l.length; rw [hl.1]; exact Nat.le_refl _, hs.max, hs.oa, hs.ra⟩
  · exact hs
theorem rw_one (m : List Nat) : (m.length ≤ 16376 → rwOK [m] = true) ∧ (16376 < m.length → rwOK [m] = false) := by
  constructor
  · intro h
    exact (rwOK_iff _).2 ⟨fun r hr => by simp at hr; subst hr; exact h, by simp [spN]; omega⟩
  · intro h
    cases hk : rwOK [m] with
    | false => rfl
    | true => have := ((rwOK_iff _).1 hk).1 m (by simp); omega
set_option maxHeartbeats 2000000 in
theorem mdadd_any (B r q : Nat) (v : Value) (rs : List (List Nat)) (m : List Nat) (S : TS) (w : World) (hR : Rf w r S) (hw : Wf S) (hst : S.steps < 4611686018427387000) (hM : Blk w q (mcs r v) 56) (ht : Txo w B v rs) (hrs : rs.length ≤ 200000) (hb : Byt m) (hm : m.length ≤ 16376) :
    Calls Try.prog 17 #[tptr q, .string (strB m)] w fun e w' => e = .returned (.int .i64 ((wrN S (frm m) : Nat) : Int)) ∧ Rf w' r (wrS S (frm m)) ∧ Mq r q w w' ∧ (wrN S (frm m) = 0 → ∃ v', Blk w' q (mcs r v') 56 ∧ Txo w' w.heap.size v' (rs ++ [m])) ∧ (wrN S (frm m) ≠ 0 → Blk w' q (mcs r v) 56) := by
  have hok := (rw_one m).1 hm
  have HF : Hid (frms [m] = frm m) := by show _ = _; simp [frms]
  have hL : Hid ((frm m).length = 8 + m.length) := frm_len m
  obtain ⟨ar, lf, un, hB0, -⟩ := id hR
  have hne : q ≠ r := blk_ne hM hB0 (by decide)
  clear hB0
  go_enter Try.func17, Try.ntmps17
  go_upto_region 2 with (first
    | (refine bs_st rfl rfl [m] (by simp only [List.map_toArray, List.map_cons, List.map_nil]; rfl) (bss1 _ _) rfl (by decide) ?_; intro W1 n1 b1)
    | (go_at_call 42; refine (frames_any _ [m] _ (txo_of n1).txs (by intro l hl; simp at hl; subst hl; exact hb) (by intro l hl; simp at hl; subst hl; omega) (by simp)).mono ?_; rw [HF.out]; rintro e W2 ⟨h1, -, b2⟩; obtain rfl := h1 hok))
  have bw2 := ab_trans b1 b2
  have hR2 := hR.keep bw2
  have hM2 := hM.keep bw2
  have ht2 := ht.keep bw2
  have c0 := hM2.at (i := 0) rfl
  clear hok n1 b1 b2
  go_upto_region 4 with (go_at_call 43; refine (rappend_any r S (frm m) _ hR2 hw.sure hw.max (by rw [hL.out]; omega) (by omega) hw.oa hw.ra).mono ?_; rintro e W3 ⟨rfl, hR3, k3⟩)
  have mq3 : Mq r q w W3 := (mq_below bw2).trans k3.mq1
  have hM3 := hM2.chg k3 hne
  have d0 := hM3.at (i := 0) rfl
  have hw3 := wf_ap (frm m) hw
  have hs3 := steps_ap S (frm m)
  have ht3 : Txo W3 B v rs := own_at ht2 fun g hg => k3.other g (fun he => by
    obtain ⟨ar, lf, un, hB2, -⟩ := id hR2
    exact blk_own ht2 hB2 (by decide) (by rw [← he]; exact hg))
  clear hR hR2 hM hM2 ht ht2 c0 k3 bw2
  rcases apN_of S (frm m).length with hN | hN | hN | hN
  · have HN : Hid (wrN S (frm m) = stN (apS S (frm m))) := if_pos hN
    have HS : Hid (wrS S (frm m) = if stN (apS S (frm m)) = 0 then syS (apS S (frm m)) else ctS (syS (apS S (frm m)))) := if_pos hN
    rw [hN]
    generalize apS S (frm m) = A at *
    clear hN
    go_upto_region 8 with (go_at_call 44; refine (rsync_any r A _ hR3 hw3.sure hw3.max (by omega) hw3.oa hw3.ra).mono ?_; rintro e W4 ⟨rfl, hR4, k4⟩)
    have mq4 := mq3.trans k4.mq1
    have hM4 := hM3.chg k4 hne
    have e0 := hM4.at (i := 0) rfl
    have e1 := hM4.at (i := 1) rfl
    have f1 := hM4.frozen 1
    have hw4 := wf_sy hw3
    have ht4 : Txo W4 B v rs := own_at ht3 fun g hg => k4.other g (fun he => by
      obtain ⟨ar, lf, un, hB2, -⟩ := id hR3
      exact blk_own ht3 hB2 (by decide) (by rw [← he]; exact hg))
    clear hR3 hM3 ht3 d0 k4 mq3
    rcases stN_of A with h0 | h0 | h0
    · have HN0 : Hid (wrN S (frm m) = 0) := HN.out.trans h0
      have HS0 : Hid (wrS S (frm m) = syS A) := HS.out.trans (if_pos h0)
      rw [h0]
      obtain ⟨qv, cv, ev⟩ := ht4.txs.slice
      have tx4 := ht4.txs
      have own4 : (W4.alloc (.cells #[] 9)).ownsRow W4.heap.size 9 1 (.slice (some ⟨W4.heap.size, 0, none⟩) 0 0) 0 (txv []) := own_newS W4 [] 0 rfl (by decide) W4.heap.size (Nat.le_refl _)
      have b4 : Below W4.heap.size W4 (W4.alloc (.cells #[] 9)) := (Below.refl _ _).alloc (Nat.le_refl _) _
      have e2 := (hM4.keep b4).at (i := 1) rfl
      subst ev
      generalize hrl : rs.length = nr at *
      clear HN HS h0
      go_upto_region 11 with fail
      go_wp2_with (first
        | (at_builtin; refine app_st (n := 0) (k := nr) W4.heap.size rfl rfl rfl own4 rfl (tx4.keep b4) hrl (by omega) b4.size ?_; intro v5 W5 own5 gr5 at5; have b5 := b4.trans (below_ownE own4 b4.size gr5))
        | (refine bs_st rfl rfl [m] (by simp only [List.map_toArray, List.map_cons, List.map_nil]; rfl) (bss1 _ _) rfl (by decide) ?_; intro W6 n6 b6; have b6' := ab_trans b5 b6; have own6 := own_keep own5 b6; have tx6 := (txo_of n6).txs)
        | (at_builtin; refine app_st (n := 0 + nr) (k := 1) W4.heap.size rfl rfl rfl own6 rfl tx6 rfl (by omega) b6'.size ?_; intro v7 W7 own7 gr7 at7; have b7 := b6'.trans (below_ownE own6 b6'.size gr7); have hM7 := hM4.keep b7; have hR7 := hR4.keep b7; have f7 := hM7.frozen 1; have g1 := hM7.at (i := 1) rfl; have T7 : Txo W7 W4.heap.size v7 (rs ++ [m]) := txo_of own7; obtain ⟨q7, c7, e7⟩ := T7.txs.slice; subst e7))
      go_ret
      have HL7 : (rs ++ [m]).length = nr + 1 := by rw [List.length_append, hrl]; rfl
      rw [HL7] at T7
      have k8 := chg_set W7 q 1 (.slice q7 (nr + 1) c7)
      have hnb := blk_own T7 hM7 (by decide)
      have hM8 := hM7.set 1 (.slice q7 (nr + 1) c7)
      exact ⟨by rw [HN0.out]; rfl, by rw [HS0.out]; exact hR7.chgO k8 (Ne.symm hne), (mq4.trans (mq_below b7)).trans k8.mq2, fun _ => ⟨_, hM8, (own_chgT (own_less T7 mq4.size) k8 hnb : Txo _ _ _ _)⟩, fun h => absurd HN0.out h⟩
    · have HN0 : Hid (wrN S (frm m) = 5) := HN.out.trans h0
      have HS0 : Hid (wrS S (frm m) = ctS (syS A)) := HS.out.trans (if_neg (by omega))
      rw [h0]
      go_wp2_with (go_at_call 45; refine (rcut_any r _ _ hR4 hw4.sure).mono ?_; rintro e W5 ⟨rfl, hR5, k5⟩)
      go_ret
      exact ⟨by rw [HN0.out]; rfl, by rw [HS0.out]; exact hR5, mq4.trans k5.mq1, fun h => (by rw [HN0.out] at h; cases h), fun _ => hM4.chg k5 hne⟩
    · have HN0 : Hid (wrN S (frm m) = 6) := HN.out.trans h0
      have HS0 : Hid (wrS S (frm m) = ctS (syS A)) := HS.out.trans (if_neg (by omega))
      rw [h0]
      go_wp2_with (go_at_call 45; refine (rcut_any r _ _ hR4 hw4.sure).mono ?_; rintro e W5 ⟨rfl, hR5, k5⟩)
      go_ret
      exact ⟨by rw [HN0.out]; rfl, by rw [HS0.out]; exact hR5, mq4.trans k5.mq1, fun h => (by rw [HN0.out] at h; cases h), fun _ => hM4.chg k5 hne⟩
  · have HN0 : Hid (wrN S (frm m) = 5) := by show _ = _; unfold wrN; rw [if_neg (by omega), hN]
    have HS0 : Hid (wrS S (frm m) = ctS (apS S (frm m))) := by show _ = _; unfold wrS; rw [if_neg (by omega), if_neg (by omega)]
    rw [hN]
    clear hN
    go_wp2_with (go_at_call 45; refine (rcut_any r _ _ hR3 hw3.sure).mono ?_; rintro e W5 ⟨rfl, hR5, k5⟩)
    go_ret
    exact ⟨by rw [HN0.out]; rfl, by rw [HS0.out]; exact hR5, mq3.trans k5.mq1, fun h => (by rw [HN0.out] at h; cases h), fun _ => hM3.chg k5 hne⟩
  · have HN0 : Hid (wrN S (frm m) = 6) := by show _ = _; unfold wrN; rw [if_neg (by omega), hN]
    have HS0 : Hid (wrS S (frm m) = ctS (apS S (frm m))) := by show _ = _; unfold wrS; rw [if_neg (by omega), if_neg (by omega)]
    rw [hN]
    clear hN
    go_wp2_with (go_at_call 45; refine (rcut_any r _ _ hR3 hw3.sure).mono ?_; rintro e W5 ⟨rfl, hR5, k5⟩)
    go_ret
    exact ⟨by rw [HN0.out]; rfl, by rw [HS0.out]; exact hR5, mq3.trans k5.mq1, fun h => (by rw [HN0.out] at h; cases h), fun _ => hM3.chg k5 hne⟩
  · have HN0 : Hid (wrN S (frm m) = 7) := by show _ = _; unfold wrN; rw [if_neg (by omega), hN]
    have HS0 : Hid (wrS S (frm m) = apS S (frm m)) := by show _ = _; unfold wrS; rw [if_neg (by omega), if_pos hN]
    rw [hN]
    clear hN
    go_wp2_with fail
    go_ret
    exact ⟨by rw [HN0.out]; rfl, by rw [HS0.out]; exact hR3, mq3, fun h => (by rw [HN0.out] at h; cases h), fun _ => hM3⟩
set_option maxHeartbeats 2000000 in
theorem mdrw_any (B r q : Nat) (v y : Value) (rs ls : List (List Nat)) (S : TS) (w : World) (hR : Rf w r S) (hw : Wf S) (hst : S.steps < 4611686018427387000) (hM : Blk w q (mcs r v) 56) (hy : Txo w B y ls) (hb : ∀ l ∈ ls, Byt l) (hr14 : ∀ l ∈ ls, l.length ≤ 200000000000000) (h8 : ls.length ≤ 6000000000000) :
    Calls Try.prog 19 #[tptr q, y] w fun e w' => e = .returned (.int .i64 ((rwN S ls : Nat) : Int)) ∧ Rf w' r (rwS S ls) ∧ Mq r q w w' ∧ (rwN S ls = 0 → ∃ v', Blk w' q (mcs r v') 56 ∧ Txo w' w.heap.size v' ls) ∧ (rwN S ls ≠ 0 → Blk w' q (mcs r v) 56) := by
  obtain ⟨qy, cy, ey⟩ := hy.txs.slice
  obtain ⟨ar, lf, un, hB0, -⟩ := id hR
  have hne : q ≠ r := blk_ne hM hB0 (by decide)
  clear hB0
  have HC := frames_any y ls w hy.txs hb hr14 (by omega)
  have hfl := frms_len ls
  subst ey
  generalize hnl : ls.length = nl at *
  cases hok : rwOK ls with
  | false =>
    have HN0 : Hid (rwN S ls = 7) := if_neg (by rw [hok]; simp)
    have HS0 : Hid (rwS S ls = S) := if_neg (by rw [hok]; simp)
    go_enter Try.func19, Try.ntmps19
    go_wp2_with (go_at_call 42; refine HC.mono ?_; rintro e W2 ⟨-, h1, b2⟩; obtain rfl := h1 hok)
    go_ret
    exact ⟨by rw [HN0.out]; rfl, by rw [HS0.out]; exact hR.keep b2, mq_below b2, fun h => (by rw [HN0.out] at h; cases h), fun _ => hM.keep b2⟩
  | true =>
    have hsp := ((rwOK_iff ls).1 hok).2
    have h8' := spN_len ls
    have HN : Hid (rwN S ls = stN S) := if_pos hok
    have HR : Hid (rpN S (frms ls).length = stN S) := if_pos (by rw [hfl]; exact hsp)
    have HS : Hid (rwS S ls = rpS S (frms ls)) := if_pos hok
    go_enter Try.func19, Try.ntmps19
    go_upto_region 2 with (go_at_call 42; refine HC.mono ?_; rintro e W2 ⟨h1, -, b2⟩; obtain rfl := h1 hok)
    have hR2 := hR.keep b2
    have hM2 := hM.keep b2
    have hy2 := hy.keep b2
    have c0 := hM2.at (i := 0) rfl
    go_upto_region 4 with (go_at_call 39; refine (rreplace_big r S (frms ls) _ hR2 (by omega) (by omega) hw.oa hw.ra).mono ?_; rw [HR.out]; rintro e W3 ⟨rfl, hR3, k3⟩)
    have mq3 : Mq r q w W3 := (mq_below b2).trans k3.mq1
    have hM3 := hM2.chg k3 hne
    have hy3 : Txo W3 B (.slice qy nl cy) ls := own_at hy2 fun g hg => k3.other g (fun he => by
      obtain ⟨ar, lf, un, hB2, -⟩ := id hR2
      exact blk_own hy2 hB2 (by decide) (by rw [← he]; exact hg))
    clear hR hR2 hM hM2 hy hy2 c0 k3 b2 HC hok
    rcases stN_of S with h0 | h0 | h0
    · have HN0 : Hid (rwN S ls = 0) := HN.out.trans h0
      rw [h0]
      have tx4 := hy3.txs
      have own4 : (W3.alloc (.cells #[] 9)).ownsRow W3.heap.size 9 1 (.slice (some ⟨W3.heap.size, 0, none⟩) 0 0) 0 (txv []) := own_newS W3 [] 0 rfl (by decide) W3.heap.size (Nat.le_refl _)
      have b4 : Below W3.heap.size W3 (W3.alloc (.cells #[] 9)) := (Below.refl _ _).alloc (Nat.le_refl _) _
      go_wp2_with (at_builtin; refine app_st (n := 0) (k := nl) W3.heap.size rfl rfl rfl own4 rfl (tx4.keep b4) hnl (by omega) b4.size ?_; intro v7 W7 own7 gr7 at7; have b7 := b4.trans (below_ownE own4 b4.size gr7); have hM7 := hM3.keep b7; have hR7 := hR3.keep b7; have f7 := hM7.frozen 1; have g1 := hM7.at (i := 1) rfl; have T7 : Txo W7 W3.heap.size v7 ls := txo_of own7; obtain ⟨q7, c7, e7⟩ := T7.txs.slice; rw [hnl] at e7; subst e7)
      go_ret
      have k8 := chg_set W7 q 1 (.slice q7 nl c7)
      have hnb := blk_own T7 hM7 (by decide)
      have hM8 := hM7.set 1 (.slice q7 nl c7)
      exact ⟨by rw [HN0.out]; rfl, by rw [HS.out]; exact hR7.chgO k8 (Ne.symm hne), (mq3.trans (mq_below b7)).trans k8.mq2, fun _ => ⟨_, hM8, (own_chgT (own_less T7 mq3.size) k8 hnb : Txo _ _ _ _)⟩, fun h => absurd HN0.out h⟩
    · have HN0 : Hid (rwN S ls = 5) := HN.out.trans h0
      rw [h0]
      go_wp2_with fail
      go_ret
      exact ⟨by rw [HN0.out]; rfl, by rw [HS.out]; exact hR3, mq3, fun h => (by rw [HN0.out] at h; cases h), fun _ => hM3⟩
    · have HN0 : Hid (rwN S ls = 6) := HN.out.trans h0
      rw [h0]
      go_wp2_with fail
      go_ret
      exact ⟨by rw [HN0.out]; rfl, by rw [HS.out]; exact hR3, mq3, fun h => (by rw [HN0.out] at h; cases h), fun _ => hM3⟩
/-- A row that is too long. -/
theorem mdadd_no (q : Nat) (m : List Nat) (w : World) (hb : Byt m) (hm : 16376 < m.length) (hr : m.length ≤ 200000000000000) :
    Calls Try.prog 17 #[tptr q, .string (strB m)] w fun e w' => e = .returned (.int .i64 7) ∧ Below w.heap.size w w' := by
  have hok := (rw_one m).2 hm
  go_enter Try.func17, Try.ntmps17
  go_wp2_with (first
    | (refine bs_st rfl rfl [m] (by simp only [List.map_toArray, List.map_cons, List.map_nil]; rfl) (bss1 _ _) rfl (by decide) ?_; intro W1 n1 b1)
    | (go_at_call 42; refine (frames_any _ [m] _ (txo_of n1).txs (by intro l hl; simp at hl; subst hl; exact hb) (by intro l hl; simp at hl; subst hl; omega) (by simp)).mono ?_; rintro e W2 ⟨-, h1, b2⟩; obtain rfl := h1 hok))
  go_ret
  exact ⟨rfl, ab_trans b1 b2⟩
end Go.Proofs.Ytalbiggmmmkclaa
namespace Go.Proofs.Ytalbiggmmmkclaa
open Go.RowKit
set_option linter.unusedVariables false
set_option maxRecDepth 100000

set_option maxHeartbeats 4000000 in
theorem mdopen_any (r : Nat) (S : TS) (w : World) (hR : Rf w r S) (hw : Wf S) (hst : S.steps < 4611686018427387000) (hby : Byt S.l) :
    Calls Try.prog 13 #[tptr r] w fun e w' => (opN S ≠ 0 → e = .returned (.tuple #[.pointer none, .int .i64 ((opN S : Nat) : Int)])) ∧ (opN S = 0 → ∃ q v, e = .returned (.tuple #[tptr q, .int .i64 0]) ∧ w.heap.size ≤ q ∧ Blk w' q (mcs r v) 56 ∧ Txo w' w.heap.size v (spt S.l)) ∧ Rf w' r (opS S) ∧ Mq r r w w' := by
  obtain ⟨ar, lf, un, hB, -⟩ := id hR
  have c7 := (octR hB).c7
  by_cases hd : S.down = true
  · have hN : Hid (opN S = 5) := if_pos hd
    have hS : Hid (opS S = S) := if_pos hd
    rw [hd] at c7
    go_enter Try.func13, Try.ntmps13
    go_wp2_with fail
    go_ret2
    exact ⟨fun _ => by rw [hN.out]; rfl, fun h => (by rw [hN.out] at h; cases h), by rw [hS.out]; exact hR, mq_below (Below.refl _ _)⟩
  · have hd' : S.down = false := by simpa using hd
    rw [hd'] at c7
    have hsu := hw.sure
    have hmx := hw.max
    have hle := spt_le S.l hby
    have hfew := spt_few S.l hby
    have hss : (strB S.l).size = S.l.length := strB_len S.l
    have heach := spt_each _ S.l (Nat.le_refl _) hby
    go_enter Try.func13, Try.ntmps13
    go_upto_region 3 with fail
    refine wp_region_held_drew (S := fun w' => w' = w.drew) (by kernel_rfl) rfl (fun hHeld => ?_)
    have bd : Below w.heap.size w w.drew := (Below.refl _ _).drew
    have hR1 := hR.keep bd
    have hB1 := hB.keep bd
    have r0 := (octR hB1).c0
    have r1 := (octR hB1).c1
    clear hB
    generalize w.drew = V at *
    refine takeH (i := 0) (some 14) rfl rfl (by kernel_rfl) (by kernel_rfl) (by kernel_rfl) (fun _ _ _ h => h) (by rfl) (fun w hSw => by (try dsimp only at hSw); go_simp; try rfl) hHeld ?_
    go_frame
    refine takeH (i := 1) (some 15) rfl rfl (by kernel_rfl) (by kernel_rfl) (by kernel_rfl) (fun _ _ _ h => h) (by rfl) (fun w hSw => by (try dsimp only at hSw); go_simp; try rfl) hHeld ?_
    go_frame
    refine takeH (i := 2) (some 16) rfl rfl (by kernel_rfl) (by kernel_rfl) (by kernel_rfl) (fun _ _ _ h => h) (by rfl) (fun w hSw => by (try dsimp only at hSw); go_simp; try rfl) hHeld ?_
    go_frame
    refine takeH (i := 3) (some 17) rfl rfl (by kernel_rfl) (by kernel_rfl) (by kernel_rfl) (fun _ _ _ h => h) (by rfl) (fun w hSw => by (try dsimp only at hSw); (subst hSw; go_simp; try rfl)) hHeld ?_
    go_frame
    refine takeH (i := 4) (some 18) rfl rfl (by kernel_rfl) (by kernel_rfl) (by kernel_rfl) (fun _ _ _ h => h) (by rfl) (fun w hSw => by (try dsimp only at hSw); go_simp; try rfl) hHeld ?_
    go_frame
    refine takeH (i := 5) (some 19) rfl rfl (by kernel_rfl) (by kernel_rfl) (by kernel_rfl) (fun _ _ _ h => h) (by rfl) (fun w hSw => by (try dsimp only at hSw); go_simp; try rfl) hHeld ?_
    go_frame
    refine takeH (i := 6) (some 20) rfl rfl (by kernel_rfl) (by kernel_rfl) (by kernel_rfl) (fun _ _ _ h => h) (by rfl) (fun w hSw => by (try dsimp only at hSw); go_simp; try rfl) hHeld ?_
    go_frame
    refine takeH (i := 7) (some 21) rfl rfl (by kernel_rfl) (by kernel_rfl) (by kernel_rfl) (fun _ _ _ h => h) (by rfl) (fun w hSw => by (try dsimp only at hSw); (subst hSw; go_simp; try rfl)) hHeld ?_
    go_frame
    refine takeH (i := 8) (some 22) rfl rfl (by kernel_rfl) (by kernel_rfl) (by kernel_rfl) (fun _ _ _ h => h) (by rfl) (fun w hSw => by (try dsimp only at hSw); (refine (?_ : _ = Result.ok (Next.value (.string (strB S.l))) _); go_simp; rw [if_neg (by rw [strB_len, strB_len, List.length_take, List.length_drop]; omega), strB_app, List.take_append_drop])) hHeld ?_
    go_frame
    refine takeH (i := 9) (some 4) rfl rfl (by kernel_rfl) (by kernel_rfl) (by kernel_rfl) (fun _ _ _ h => h) (by rfl) (fun w hSw => by (try dsimp only at hSw); go_simp; try rfl) hHeld ?_
    go_frame
    refine wpAnyH_done (by kernel_rfl) ?_ _
    clear r0 r1 hB1 hHeld
    go_upto_region 5 with (first
      | (refine sb_t rfl rfl rfl hby (by omega) ?_; intro c2 W2 s2 b2)
      | (go_at_call 38; refine (rsplit_any _ S.l _ s2 hby hmx).mono ?_; rintro e W3 ⟨vl, vs, rfl, L3, b3⟩))
    have b03 := ab_trans bd (ab_trans b2 b3)
    have hR3 := hR1.keep (ab_trans b2 b3)
    have L3' : Lis W3 w.heap.size vl vs (spt S.l) := L3.less (ab_trans bd b2).size
    obtain ⟨ql, cl, el⟩ : ∃ q c, vl = .slice q (spt S.l).length c := by
      obtain ⟨q, c, e, -⟩ := L3.ls.row
      rw [L3.ls.len] at e
      exact ⟨q, c, e⟩
    subst el
    clear L3 s2 b2 b3 hR1 bd hR
    generalize hsp : spN (spt S.l) = sp at *
    generalize hn : S.l.length = n at *
    generalize hF : spt S.l = F at *
    go_upto_if 32 with fail
    go_cut [7] from 32 to 40 (fun s wc => opN S = 0 ∧ Rf wc r (opS S) ∧ Lis wc w.heap.size (.slice ql F.length cl) vs F ∧ Mq r r w wc)
    case first =>
      by_cases hlt : sp < n
      · have hN : Hid (opN S = stN S) := by show _ = _; unfold opN; rw [if_neg hd, hF, hsp, hn, if_pos hlt]
        have hS : Hid (opS S = rpS S (S.l.take sp)) := by show _ = _; unfold opS; rw [if_neg hd, hF, hsp, hn, if_pos hlt]
        have hlti : (sp : Int) < (n : Int) := by omega
        have HL : Hid ((S.l.take sp).length = sp) := by show _ = _; rw [List.length_take]; omega
        have HR : Hid (rpN S sp = stN S) := if_pos (by omega)
        go_upto_region 7 with (first
          | (refine ss_h rfl rfl sp rfl rfl rfl (by omega) ?_)
          | (go_at_call 39; refine (rreplace_big r S (S.l.take sp) _ hR3 (by rw [HL.out]; omega) (by omega) hw.oa hw.ra).mono ?_; rw [HL.out, HR.out]; rintro e W4 ⟨rfl, hR4, k4⟩))
        have mq4 : Mq r r w W4 := (mq_below b03).trans k4.mq1
        have L4 : Lis W4 w.heap.size (.slice ql F.length cl) vs F := by
          obtain ⟨ar, lf, un, hB2, -⟩ := id hR3
          exact ⟨own_at L3'.row fun g hg => k4.other g (fun he => blk_own L3'.row hB2 (by decide) (by rw [← he]; exact hg)), ⟨L3'.bag.1, fun j v l hv hl => own_at (L3'.bag.2 j v l hv hl) fun g hg => k4.other g (fun he => blk_own (L3'.bag.2 j v l hv hl) hB2 (by decide) (by rw [← he]; exact hg)), L3'.bag.3⟩, L3'.sep⟩
        clear L3' hR3 k4 b03
        rcases stN_of S with h0 | h0 | h0
        · have HN0 : Hid (opN S = 0) := hN.out.trans h0
          rw [h0]
          go_wp2_with fail
          go_meet
          case rel => exact ⟨HN0.out, by rw [hS.out]; exact hR4, L4, mq4⟩
        · have HN0 : Hid (opN S = 5) := hN.out.trans h0
          rw [h0]
          go_wp2_with fail
          go_ret2
          exact ⟨fun _ => by rw [HN0.out]; rfl, fun h => (by rw [HN0.out] at h; cases h), by rw [hS.out]; exact hR4, mq4⟩
        · have HN0 : Hid (opN S = 6) := hN.out.trans h0
          rw [h0]
          go_wp2_with fail
          go_ret2
          exact ⟨fun _ => by rw [HN0.out]; rfl, fun h => (by rw [HN0.out] at h; cases h), by rw [hS.out]; exact hR4, mq4⟩
      · have hN : Hid (opN S = 0) := by show _ = _; unfold opN; rw [if_neg hd, hF, hsp, hn, if_neg hlt]
        have hS : Hid (opS S = S) := by show _ = _; unfold opS; rw [if_neg hd, hF, hsp, hn, if_neg hlt]
        have hlti : ¬ (sp : Int) < (n : Int) := by omega
        go_wp2_with fail
        go_meet
        case rel => exact ⟨hN.out, by rw [hS.out]; exact hR3, L3', mq_below b03⟩
    case rest =>
    clear hR3 L3' b03
    obtain ⟨hN0, hR4, L4, mq4⟩ := hcut
    have HN0 : Hid (opN S = 0) := hN0
    clear hN0
    go_upto_region 10 with fail
    have hq4 : Blk (wc.alloc (.cells #[tptr r, .slice none 0 0] 56)) wc.heap.size (mcs r (.slice none 0 0)) 56 := Blk.new _ _ _
    have b4 : Below wc.heap.size wc (wc.alloc (.cells #[tptr r, .slice none 0 0] 56)) := (Below.refl _ _).alloc (Nat.le_refl _) _
    generalize wc.alloc (.cells #[tptr r, .slice none 0 0] 56) = X4 at *
    have HF : Hid (spt S.l = F) := hF
    clear hF
    have hFl := L4.ls.len
    obtain ⟨ql', cl', gl, ol, ell, hcl, hml, hpl, hgl, hrl⟩ := L4.ls.open
    cases ell
    generalize hFn : F.length = nf at *
    go_wp2_with fail
    go_loopw [9] (fun i wr => ∃ (k : Nat) (v : Value), k ≤ nf ∧ i = .int .i64 (k : Int) ∧ Blk wr wc.heap.size (mcs r v) 56 ∧ Txo wr wc.heap.size v (F.take k) ∧ Below wc.heap.size wc wr) (fun i _ => nf - (intOf i).toNat)
    case atStart => exact ⟨0, _, by omega, rfl, hq4, World.ownsRow_nil _ _ _ _, b4⟩
    case round =>
      clear hq4 b4
      obtain ⟨k, v, hk, rfl, hq, hT, hbw⟩ := hrel
      by_cases ck : k = nf
      · subst ck
        rw [List.take_of_length_le (by omega)] at hT
        clear hpl hgl hrl
        go_wp2_with fail
        go_ret2
        exact ⟨fun h => absurd HN0.out h, fun _ => ⟨_, v, rfl, mq4.size, hq, by rw [HF.out]; exact hT.less mq4.size⟩, hR4.keep hbw, mq4.trans (mq_below hbw)⟩
      · obtain ⟨y, hy⟩ : ∃ y, vs[k]? = some y := ⟨vs[k], List.getElem?_eq_getElem (by omega)⟩
        obtain ⟨l, hl⟩ : ∃ l, F[k]? = some l := ⟨F[k], List.getElem?_eq_getElem (by omega)⟩
        obtain rfl := hpl (by omega)
        have hgl' := hgl (by omega)
        have DY : ∀ X, Below wc.heap.size wc X → X.cell? ⟨gl, ol + k, none⟩ = some y := fun X h => keep_cell h (hrl k y hy) hgl'
        have sy := L4.ls.each k y l hy hl
        obtain ⟨qy, ny, cy, ey⟩ := sy.slice
        subst ey
        have hki : (k : Int) < (nf : Int) := by omega
        have hkn : k < nf := by omega
        have HT : Hid (F.take (k + 1) = F.take k ++ [l]) := by show _ = _; rw [List.take_add_one, hl]; rfl
        have hTl : (F.take k).length = k := by rw [List.length_take]; omega
        obtain ⟨qv, cv, ev⟩ := hT.txs.slice
        rw [hTl] at ev
        subst ev
        have hown : wr.ownsRow wc.heap.size 9 1 (.slice qv k cv) k (txv (F.take k)) := by have := hT; unfold Txo at this; rwa [hTl] at this
        clear hrl hpl hgl hy hl hT
        go_upto_region 13 with fail
        refine region_L 14 (S := fun w' => Blk w' wc.heap.size (mcs r (.slice qv k cv)) 56 ∧ Below wc.heap.size wc w') (by kernel_rfl) ⟨hq.drew, hbw.drew⟩ (fun hHeld => ?_)
        have bd : Below wr.heap.size wr wr.drew := (Below.refl _ _).drew
        replace hown := own_keep hown bd
        clear hq hbw bd
        generalize wr.drew = V5 at *
        refine takeL (i := 0) [12, 13, 14] (some 50) (by rfl) rfl rfl (by kernel_rfl) (by kernel_rfl) (by kernel_rfl) (by kernel_rfl) (fun _ _ _ h => h) (by rfl) (fun w hSw => by (try dsimp only at hSw); go_simp; try rfl) hHeld ?_
        go_frame
        refine takeL (i := 1) [2, 3, 4, 11, 14] (some 51) (by rfl) rfl rfl (by kernel_rfl) (by kernel_rfl) (by kernel_rfl) (by kernel_rfl) (fun _ _ _ h => h) (by rfl) (fun w hSw => by (try dsimp only at hSw); go_simp; try rfl) hHeld ?_
        go_frame
        refine takeL (i := 2) [3, 4, 11, 14] (some 52) (by rfl) rfl rfl (by kernel_rfl) (by kernel_rfl) (by kernel_rfl) (by kernel_rfl) (fun _ _ _ h => h) (by rfl) (fun w hSw => by (try dsimp only at hSw); go_simp; try rfl) hHeld ?_
        go_frame
        refine takeL (i := 3) [4, 11, 14] (some 53) (by rfl) rfl rfl (by kernel_rfl) (by kernel_rfl) (by kernel_rfl) (by kernel_rfl) (fun _ _ _ h => h) (by rfl) (fun w hSw => by (try dsimp only at hSw); go_simp; try rfl) hHeld ?_
        go_frame
        refine takeL (i := 4) [11, 14] (some 54) (by rfl) rfl rfl (by kernel_rfl) (by kernel_rfl) (by kernel_rfl) (by kernel_rfl) (fun _ _ _ h => h) (by rfl) (fun w hSw => by (try dsimp only at hSw); (have hc := hSw.1.at (i := 1) rfl; go_simp; try rfl)) hHeld ?_
        go_frame
        refine takeL (i := 5) [7, 8, 9, 10, 11, 14] (some 55) (by rfl) rfl rfl (by kernel_rfl) (by kernel_rfl) (by kernel_rfl) (by kernel_rfl) (fun _ _ _ h => h) (by rfl) (fun w hSw => by (try dsimp only at hSw); go_simp; try rfl) hHeld ?_
        go_frame
        refine takeL (i := 6) [7, 8, 9, 10, 11, 14] (some 56) (by rfl) rfl rfl (by kernel_rfl) (by kernel_rfl) (by kernel_rfl) (by kernel_rfl) (fun _ _ _ h => h) (by rfl) (fun w hSw => by (try dsimp only at hSw); go_simp; try rfl) hHeld ?_
        go_frame
        refine takeL (i := 7) [8, 9, 10, 11, 14] (some 57) (by rfl) rfl rfl (by kernel_rfl) (by kernel_rfl) (by kernel_rfl) (by kernel_rfl) (fun _ _ _ h => h) (by rfl) (fun w hSw => by (try dsimp only at hSw); go_simp; try rfl) hHeld ?_
        go_frame
        refine takeL (i := 8) [9, 10, 11, 14] (some 58) (by rfl) rfl rfl (by kernel_rfl) (by kernel_rfl) (by kernel_rfl) (by kernel_rfl) (fun _ _ _ h => h) (by rfl) (fun w hSw => by (try dsimp only at hSw); (have hc := DY _ hSw.2; go_simp; try rfl)) hHeld ?_
        go_frame
        refine takeL (i := 9) [10, 11, 14] (some 59) (by rfl) rfl rfl (by kernel_rfl) (by kernel_rfl) (by kernel_rfl) (by kernel_rfl) (fun _ _ _ h => h) (by rfl) (fun w hSw => by (try dsimp only at hSw); exact cv_run (x := .tmp 58) rfl rfl (sy.keep hSw.2)) hHeld ?_
        go_frame
        refine anyL_ready (rs := [10]) (by kernel_rfl) (by simp) (AllL.cons rfl (fun K hK => ?_) AllL.nil)
        rw [if_pos (by rfl)]
        refine st1W (some 60) rfl rfl rfl fun v60 W6 n6 b6 => ?_
        have own6 := own_keep hown b6
        refine hK.out _ _ ⟨hHeld.1.keep b6, ab_trans hHeld.2 b6⟩ (fun hHeld => ?_)
        clear hK K
        go_frame
        refine anyL_ready (rs := [11]) (by kernel_rfl) (by simp) (AllL.cons rfl (fun K hK => ?_) AllL.nil)
        rw [if_pos (by rfl)]
        refine appSW wc.heap.size (some 61) rfl rfl rfl own6 rfl (txo_of n6).txs (k := 1) rfl (by omega) hHeld.2.size fun v61 W7 own7 gr7 => ?_
        have hB7 := blk_grownT hHeld.1 gr7 (blk_own own6 hHeld.1 (by decide))
        have bw7 := hHeld.2.trans (below_ownE own6 hHeld.2.size gr7)
        have T7 : Txo W7 wc.heap.size v61 (F.take k ++ [l]) := txo_of own7
        obtain ⟨q7, c7, e7⟩ := T7.txs.slice
        have HL7 : (F.take k ++ [l]).length = k + 1 := by rw [List.length_append, hTl]; rfl
        rw [HL7] at e7
        subst e7
        refine hK.out _ _ ⟨hB7, bw7⟩ (fun hHeld => ?_)
        clear hK K own6 own7 gr7 n6 b6 hown
        go_frame
        refine takeL (i := 12) [13, 14] (some 62) (by rfl) rfl rfl (by kernel_rfl) (by kernel_rfl) (by kernel_rfl) (by kernel_rfl) (fun _ _ _ h => h) (by rfl) (fun w hSw => by (try dsimp only at hSw); go_simp; try rfl) hHeld ?_
        go_frame
        refine takeL (i := 13) [14] (some 63) (by rfl) rfl rfl (by kernel_rfl) (by kernel_rfl) (by kernel_rfl) (by kernel_rfl) (fun _ _ _ h => h) (by rfl) (fun w hSw => by (try dsimp only at hSw); go_simp; try rfl) hHeld ?_
        go_frame
        have g1 := hB7.at (i := 1) rfl
        have f1 := hB7.frozen 1
        refine anyL_ready (rs := [14]) (by kernel_rfl) (by simp) (AllL.last rfl (by kernel_rfl) (fun K hK => ?_))
        go_simp
        refine hK.out _ _ ?_
        clear hK K
        refine anyL_done (by kernel_rfl) ?_
        go_wp2_with fail
        have k8 := chg_set W7 wc.heap.size 1 (.slice q7 (k + 1) c7)
        exact ⟨⟨k + 1, _, by omega, rfl, hB7.set 1 (.slice q7 (k + 1) c7), by rw [HT.out]; exact own_chgT T7 k8 (blk_own T7 hB7 (by decide)), bw7.trans (k8.below (Nat.le_refl _))⟩, by simp only [intOf]; omega⟩
end Go.Proofs.Ytalbiggmmmkclaa
namespace Go.Proofs.Ytalbiggmmmkclaa
open Go.ChangeShapes Go.WideShapes Go.ChangeAt Go.RowKit
set_option linter.unusedVariables false
set_option maxRecDepth 100000

/-- A call: its kind, its row, its rows, its number. -/
structure OpE where
  kd : Int
  nn : Int
  v : Value
  l : List Nat
  vr : Value
  vs : List Value
  ls : List (List Nat)
structure OpEAt (W : World) (g o : Nat) (x : OpE) : Prop where
  c0 : W.cell? ⟨g, o, none⟩ = some (.int .i64 x.kd)
  c1 : W.cell? ⟨g, o + 1, none⟩ = some x.v
  c2 : W.cell? ⟨g, o + 2, none⟩ = some x.vr
  c3 : W.cell? ⟨g, o + 3, none⟩ = some (.int .i64 x.nn)
  sl : SlZ W x.v x.l
  rows : LsZ W x.vr x.vs x.ls
  bk : I64 x.kd
  bn : I64 x.nn
structure Sc7 (W : World) (q : Option Addr) (n cap g off : Nat) (os : List OpE) : Prop where
  len : os.length = n
  fits : n ≤ cap
  max : cap ≤ 9223372036854775807
  ptr : 0 < n → q = some ⟨g, off, none⟩
  lt : 0 < n → g < W.heap.size
  row : ∀ j x, os[j]? = some x → OpEAt W g (off + j * 4) x
  few : n ≤ 2199023255552
section
variable {H : Type} {enc : TypeId × Value → H} {w : World} {base : Nat} {spare : Nat → Bool} {held : Bool}
set_option maxHeartbeats 1000000 in
theorem open_script {r : Reach} {b0 : Nat} {v : Value} {d : DataW H} {p : List MemPlace} (hv : Value.okWide Try.prog w r b0 22 v) (h : DataW.Trod enc Try.prog w base spare held 22 v d p) (hz : ∀ n ∈ d.weights Try.prog 22, n ≤ reachBytes) :
    ∃ (q : Option Addr) (n cap g off : Nat) (os : List OpE), v = .slice q n cap ∧ Sc7 w q n cap g off os := by
  obtain ⟨a, len, cap, rfl⟩ := okWide_slice Try.underlying22 hv
  obtain ⟨fuel, hf⟩ := h
  have z := len_ofT Try.underlying22 hf hz
  rw [show Try.prog.bytesOf 41 = 64 by kernel_rfl] at z
  unfold reachBytes at z
  rcases Deep.open_slice Try.underlying22 hf with ⟨hcs, _⟩ | ⟨a', len', cap', m, n', D', Pl, hcs, hb, hl, hm, hmm, hx, hel⟩
  · have e1 : (Value.slice a len cap) = .slice none 0 0 := by simpa [Value.cells] using hcs
    cases e1
    exact ⟨none, 0, 0, 0, 0, [], rfl, rfl, by omega, by omega, fun h => absurd h (by omega), fun h => absurd h (by omega), fun j c hc => by simp at hc, by omega⟩
  · have e1 : (Value.slice a len cap) = .slice (some a') len' cap' := by simpa [Value.cells] using hcs
    cases e1
    have hle : len ≤ m := by rw [hmm]; split <;> omega
    have hxd : d = .slice ((List.range len).map D') ((List.range (m - len)).map fun j => D' (len + j)) := congrArg Prod.fst hx
    subst hxd
    have key : ∀ j, j < len → ∃ x : OpE, w.cell? ((a'.add (j * 4)).add 0) = some (.int .i64 x.kd) ∧ w.cell? ((a'.add (j * 4)).add 1) = some x.v ∧ w.cell? ((a'.add (j * 4)).add 2) = some x.vr ∧ w.cell? ((a'.add (j * 4)).add 3) = some (.int .i64 x.nn) ∧ SlZ w x.v x.l ∧ LsZ w x.vr x.vs x.ls ∧ I64 x.kd ∧ I64 x.nn := by
      intro j hj
      obtain ⟨cs', h1, h2⟩ := hel j (by omega)
      rw [show Try.prog.cellsOf 41 = 4 by kernel_rfl] at h1
      obtain ⟨_, h3, h4⟩ := World.cells?_some h1
      have hzj : ∀ n ∈ (D' j).weights Try.prog 41, n ≤ reachBytes := fun n hn => hz n (by
        simp only [DataW.weights, Try.underlying22]
        exact List.mem_cons_of_mem _ (List.mem_append_left _ (weights_mem_all (List.mem_map.2 ⟨j, List.mem_range.2 hj, rfl⟩) n hn)))
      obtain ⟨xs, m', _, hxe, _, hxl, hxx⟩ := DataW.trod_struct Try.underlying41 h2
      have hxe1 : D' j = .agg (xs.map (·.1)) := congrArg Prod.fst hxe
      rw [hxe1] at hzj
      have hf0 := hxx 0 _ rfl
      have hf1 := hxx 1 _ rfl
      have hf2 := hxx 2 _ rfl
      have hf3 := hxx 3 _ rfl
      have hsz : xs.length = 4 := hxl
      rw [List.getElem?_eq_getElem (by omega)] at hf0 hf1 hf2 hf3
      obtain ⟨e0, e1, e2, e3, rfl⟩ : ∃ e0 e1 e2 e3, cs' = [e0, e1, e2, e3] := by
        match cs', h3 with
        | [e0, e1, e2, e3], _ => exact ⟨e0, e1, e2, e3, rfl⟩
      obtain ⟨k0, rfl, w0⟩ := i64_of (e := e0) hf0
      obtain ⟨k3, rfl, w3⟩ := i64_of (e := e3) hf3
      obtain ⟨q1, n1, c1, l1, ee1, hs1⟩ := bytesZ hf1 (fun n hn => hzj n (by simp only [DataW.weights, Try.underlying41]; exact DataW.weights_mem_each (j := 1) rfl (by rw [List.getElem?_map, List.getElem?_eq_getElem (by omega)]; rfl) n hn))
      obtain rfl : e1 = .slice q1 n1 c1 := by have h9 : [e1] = [Value.slice q1 n1 c1] := ee1; simpa using h9
      obtain ⟨q2, n2, c2, vs2, ls2, ee2, hs2⟩ := listsZ hf2 (fun n hn => hzj n (by simp only [DataW.weights, Try.underlying41]; exact DataW.weights_mem_each (j := 2) rfl (by rw [List.getElem?_map, List.getElem?_eq_getElem (by omega)]; rfl) n hn))
      obtain rfl : e2 = .slice q2 n2 c2 := by have h9 : [e2] = [Value.slice q2 n2 c2] := ee2; simpa using h9
      exact ⟨⟨k0, k3, .slice q1 n1 c1, l1, .slice q2 n2 c2, vs2, ls2⟩, h4 0 (by omega), h4 1 (by omega), h4 2 (by omega), h4 3 (by omega), hs1, hs2, w0, w3⟩
    haveI : Inhabited OpE := ⟨⟨0, 0, .nilIface, [], .nilIface, [], []⟩⟩
    obtain ⟨L, hL⟩ := Deep.choose_lt key
    have hspot : 0 < len → a'.spot = none := fun h0 => by
      have h1 := (hL 0 h0).1
      have := spot_of_cell h1
      rw [Nat.zero_mul] at this
      simpa [Addr.add] using this
    refine ⟨some a', len, cap, a'.block, a'.off, (List.range len).map L, rfl, by simp, hl, hm, fun h0 => ?_, fun h0 => ?_, fun j x hx => ?_, by omega⟩
    · have hs := hspot h0
      obtain ⟨b, o, s⟩ := a'; cases hs; rfl
    · have := World.block_lt_of_cell? w _ (hL 0 h0).1
      simpa [Addr.add] using this
    · have hj : j < len := by have := (List.getElem?_eq_some_iff.1 hx).1; simpa using this
      have hxj : x = L j := by simp [hj] at hx; exact hx.symm
      subst hxj
      have hs := hspot (by omega)
      obtain ⟨h0, h1, h2, h3, h4, h5, h6, h7⟩ := hL j hj
      rw [add_plain _ hs, add_plain _ rfl] at h0 h1 h2 h3
      exact ⟨h0, h1, h2, h3, h4, h5, h6, h7⟩
end
theorem OpEAt.keep {W W' : World} {g o : Nat} {x : OpE} (h : OpEAt W g o x) (hg : g < W.heap.size) (hb : Below W.heap.size W W') : OpEAt W' g o x :=
  ⟨keep_cell hb h.c0 hg, keep_cell hb h.c1 hg, keep_cell hb h.c2 hg, keep_cell hb h.c3 hg, ⟨h.sl.1.keep hb, h.sl.2⟩, ⟨h.rows.1.keep hb, h.rows.2⟩, h.bk, h.bn⟩
set_option maxHeartbeats 2000000 in
theorem dlong_any (q : Option Addr) (n cap g off : Nat) (os : List OpE) (w : World) (h : Sc7 w q n cap g off os) :
    Calls Try.prog 10 #[.slice q n cap] w fun e w' => (∃ rr : Bool, e = .returned (.bool rr) ∧ (rr = false → ∀ x ∈ os, x.l.length ≤ 20000)) ∧ Below w.heap.size w w' := by
  obtain ⟨hlen, hc, hm, hp, hg, hat, hfew⟩ := h
  go_enter Try.func10, Try.ntmps10
  go_wp2_with fail
  go_loopw [3, 10] (fun s x wr => ∃ (i : Nat) (y : Int), i ≤ n ∧ x = .int .i64 (i : Int) ∧ s = .int .i64 y ∧ (∀ x ∈ os.take i, x.l.length ≤ 20000) ∧ Below w.heap.size w wr) (fun _ x _ => n - (intOf x).toNat)
  case atStart => exact ⟨0, 0, by omega, rfl, rfl, by simp, Below.refl _ _⟩
  case round =>
    obtain ⟨i, y, hi, rfl, rfl, hall, hbw⟩ := hrel
    by_cases hin : i = n
    · subst hin
      rw [List.take_of_length_le (by omega)] at hall
      clear hat hp hg
      go_wp2_with fail
      go_ret
      exact ⟨⟨false, rfl, fun _ => hall⟩, hbw⟩
    · obtain ⟨x, hx⟩ : ∃ x, os[i]? = some x := ⟨os[i], List.getElem?_eq_getElem (by omega)⟩
      obtain rfl := hp (by omega)
      have hgl := hg (by omega)
      have ox := (hat i x hx).keep hgl hbw
      obtain ⟨d0, d1, d2, d3, sl, rows, -, -⟩ := ox
      have hii : (i : Int) < (n : Int) := by omega
      have hin' : i < n := by omega
      have HT : Hid (os.take (i + 1) = os.take i ++ [x]) := by show _ = _; rw [List.take_add_one, hx]; rfl
      have HAl : Hid (∀ x ∈ os.take i, x.l.length ≤ 20000) := hall
      obtain ⟨kd, nn, vx, l, vr, vs, ls⟩ := x
      dsimp only at d0 d1 d2 d3 sl rows
      obtain ⟨qx, nx, capx, ex⟩ := sl.1.slice
      have hlx := (by rw [ex] at sl; exact sl.1.len : l.length = nx ∧ nx ≤ capx ∧ capx ≤ 9223372036854775807)
      have hl14 := sl.2.2
      rw [hlx.1] at hl14
      subst ex
      obtain ⟨qr, capr, gr, offr, er, hcr, hmr, hpr, hgr, hrr⟩ := rows.1.open
      have hlenr := rows.1.len
      have hEr := rows.1.each
      have hzr := rows.2.1
      subst er
      generalize hnr : ls.length = nr at *
      clear hat hp hg hall hx sl rows
      go_upto_region 7 with fail
      have hO := Blk.new wr #[.int .i64 kd, .slice qx nx capx, .slice qr nr capr, .int .i64 nn] 41
      have b6 : Below wr.heap.size wr (wr.alloc (.cells #[.int .i64 kd, .slice qx nx capx, .slice qr nr capr, .int .i64 nn] 41)) := (Below.refl _ _).alloc (Nat.le_refl _) _
      generalize wr.alloc (.cells #[.int .i64 kd, .slice qx nx capx, .slice qr nr capr, .int .i64 nn] 41) = X at *
      have bX := ab_trans hbw b6
      have o1 := hO.at (i := 1) rfl
      have hrX : ∀ (k : Nat) (u : Value), vs[k]? = some u → 0 < nr → X.cell? ⟨gr, offr + k, none⟩ = some u := fun k u hu h0 => keep_cell b6 (hrr k u hu) (hgr h0)
      have hEX : ∀ (j : Nat) (u : Value) (m : List Nat), vs[j]? = some u → ls[j]? = some m → ∃ a' b' c', u = .slice a' b' c' ∧ b' ≤ 200000000000000 := fun j u m hu hm' => by
        have s := hEr j u m hu hm'
        obtain ⟨a', b', c', e⟩ := s.slice
        rw [e] at s
        have := s.len
        have h2 := (hzr m (List.mem_of_getElem? hm')).2
        exact ⟨a', b', c', e, by omega⟩
      generalize wrap64 (y + (1 + (nx : Int) / 200)) = y1
      generalize hbb : wr.heap.size = bb at *
      clear hrr hgr hEr hzr d0 d1 d2 d3 hO hbw b6 hbb
      go_loopw [3, 24] (fun s j w2 => ∃ (k : Nat) (y : Int), k ≤ nr ∧ j = .int .i64 (k : Int) ∧ s = .int .i64 y ∧ w2 = X) (fun _ j _ => nr - (intOf j).toNat)
      case atStart => exact ⟨0, y1, by omega, rfl, rfl, rfl⟩
      case round =>
        obtain ⟨k, y2, hk, rfl, rfl, rfl⟩ := hrel
        by_cases ck : k = nr
        · subst ck
          clear hpr hrX hEX
          by_cases hbig : 400 < y2
          · go_wp2_with fail
            go_ret
            exact ⟨⟨true, rfl, fun h => by cases h⟩, bX⟩
          · by_cases hlong : 20000 < nx
            · have hli : (20000 : Int) < (nx : Int) := by omega
              go_wp2_with fail
              go_ret
              first | exact ⟨.inr rfl, bX⟩ | exact ⟨⟨true, rfl, fun h => by cases h⟩, bX⟩
            · have hli : ¬ (20000 : Int) < (nx : Int) := by omega
              go_wp2_with fail
              refine ⟨⟨i + 1, y2, by omega, rfl, rfl, ?_, bX⟩, by simp only [intOf]; omega⟩
              rw [HT.out]
              intro x hx
              rcases List.mem_append.1 hx with h1 | h1
              · exact HAl.out x h1
              · simp at h1
                subst h1
                show l.length ≤ 20000
                omega
        · obtain ⟨u, hu⟩ : ∃ y, vs[k]? = some y := ⟨vs[k], List.getElem?_eq_getElem (by omega)⟩
          obtain ⟨m, hm'⟩ : ∃ l, ls[k]? = some l := ⟨ls[k], List.getElem?_eq_getElem (by omega)⟩
          obtain rfl := hpr (by omega)
          have du := hrX k u hu (by omega)
          obtain ⟨a', b', c', eu, hb14⟩ := hEX k u m hu hm'
          subst eu
          have hki : (k : Int) < (nr : Int) := by omega
          have hkn : k < nr := by omega
          clear hpr hrX hEX hu hm'
          go_wp2_with fail
          exact ⟨⟨k + 1, _, by omega, rfl, rfl, trivial⟩, by simp only [intOf]; omega⟩
end Go.Proofs.Ytalbiggmmmkclaa
