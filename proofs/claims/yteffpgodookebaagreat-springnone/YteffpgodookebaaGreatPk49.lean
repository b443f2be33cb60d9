/-
  package diary in memory: Rewrite, without.
  A diary on a tape that is up; estuarylaw07.alive.
-/
import Derived.Test.YteffpgodookebaaGreatPk48
import Derived.Test.YteffpgodookebaaGreatPk41
namespace Go.Proofs.YteffpgodookebaaGreat
open Go.RowKit
set_option linter.unusedVariables false
set_option maxRecDepth 100000

/-- Rows that together find room. -/
def rwOK (ls : List (List Nat)) : Bool := ls.all (fun r => decide (r.length ≤ 16376)) && decide (spN ls ≤ 1048576)
theorem rwOK_iff (ls : List (List Nat)) : rwOK ls = true ↔ (∀ r ∈ ls, r.length ≤ 16376) ∧ spN ls ≤ 1048576 := by simp [rwOK]
/-- A Rewrite's error, and the tape behind it. -/
def rwN (S : TS) (ls : List (List Nat)) : Nat := if rwOK ls = true then stN S else 7
def rwS (S : TS) (ls : List (List Nat)) : TS := if rwOK ls = true then rpS S (frms ls) else S
theorem spN_next (ls : List (List Nat)) (k : Nat) (l : List Nat) (h : ls[k]? = some l) : spN (ls.take (k + 1)) = spN (ls.take k) + (8 + l.length) := by rw [List.take_add_one, h]; exact spN_snoc _ _
theorem frms_next (ls : List (List Nat)) (k : Nat) (l : List Nat) (h : ls[k]? = some l) : frms (ls.take (k + 1)) = frms (ls.take k) ++ frm l := by rw [List.take_add_one, h]; exact frms_snoc _ _
theorem spN_mono (ls : List (List Nat)) (k : Nat) : spN (ls.take k) ≤ spN ls := by
  have := spN_app (ls.take k) (ls.drop k)
  rw [List.take_append_drop] at this
  omega
theorem all_next {p : List Nat → Prop} (ls : List (List Nat)) (k : Nat) (l : List Nat) (h : ls[k]? = some l) (ha : ∀ r ∈ ls.take k, p r) (hl : p l) : ∀ r ∈ ls.take (k + 1), p r := by
  rw [List.take_add_one, h]
  intro r hr
  rcases List.mem_append.1 hr with h1 | h1
  · exact ha r h1
  · simp at h1; subst h1; exact hl
set_option maxHeartbeats 2000000 in
theorem drewrite_any (base b d nr ns : Nat) (v x : Value) (vs : List Value) (ls : List (List Nat)) (S : TS) (w : World) (hT : Tp w base b v S) (hst : S.steps < 4611686018427387000) (hD : Blk w d (dcs b nr ns) 172) (hx : Ls w x vs ls) (hb : ∀ l ∈ ls, Byt l) (hr14 : ∀ l ∈ ls, l.length ≤ 200000000000000) :
    Calls Tryz.prog 101 #[tptr d, x] w fun e w' => e = .returned (errV (rwN S ls)) ∧ ∃ v', Tp w' base b v' (rwS S ls) ∧ Mw b d w w' v v' ∧ (rwN S ls = 0 → Blk w' d (dcs b ls.length (spN ls)) 172) ∧ (rwN S ls ≠ 0 → Blk w' d (dcs b nr ns) 172) := by
  obtain ⟨q, cap, g, off, ep, hc, hm, hp, hg, hr⟩ := hx.open
  have hlen := hx.len
  subst ep
  generalize hn : ls.length = n at *
  have n7n := ne70
  go_enter Tryz.func101, Tryz.ntmps101
  go_wp2_with fail
  go_loopw [5, 17] (fun y i wr => ∃ k : Nat, k ≤ n ∧ i = .int .i64 (k : Int) ∧ Ow wr w.heap.size y (frms (ls.take k)) ∧ (∀ r ∈ ls.take k, r.length ≤ 16376) ∧ spN (ls.take k) ≤ 1048576 ∧ Below w.heap.size w wr) (fun _ i _ => n - (intOf i).toNat)
  case atStart => exact ⟨0, by omega, rfl, World.ownsRow_nil _ _ _ _, by simp, by simp [spN], Below.refl _ _⟩
  case round =>
    obtain ⟨k, hk, rfl, HO, hall, hsp, hbw⟩ := hrel
    by_cases c : k = n
    · subst c
      rw [List.take_of_length_le (by omega)] at HO hall hsp
      have hok := (rwOK_iff ls).2 ⟨hall, hsp⟩
      have HN : Hid (rwN S ls = stN S) := if_pos hok
      have HS : Hid (rwS S ls = rpS S (frms ls)) := if_pos hok
      have hl8 := frms_len ls
      have HR : Hid (rpN S (frms ls).length = stN S) := if_pos (by omega)
      have hTr := hT.keep hbw
      have hDr := hD.keep hbw
      have d0 := hDr.at (i := 0) rfl
      have t0 := stb_own hT HO
      obtain ⟨qa, ca, ea⟩ := HO.form
      rw [hl8] at ea
      subst ea
      have n5n := ne5n
      have n6n := ne6n
      clear hr hp hg hb hr14 hall hok HO hT hD hx
      go_upto_region 15 with (go_at_call 90; refine (replace_any _ _ _ _ _ _ _ hTr (by omega) t0).mono ?_; rw [HR.out]; rintro e W4 ⟨rfl, v4, h4, m4⟩)
      have mv4 := (mv_below (b := b) v hbw).trans m4
      have hD4 := hDr.mv hTr m4 (by decide) (by decide)
      obtain ⟨far1, far2⟩ := tp_far h4 hD4
      have d1 := hD4.at (i := 1) rfl
      have d2 := hD4.at (i := 2) rfl
      have f1 := hD4.frozen 1
      have f2 := hD4.frozen 2
      clear m4 t0 hTr hDr d0 hbw
      rcases stN_of S with h0 | h0 | h0
      · have HN0 : Hid (rwN S ls = 0) := HN.out.trans h0
        rw [errV_ok h0]
        generalize hsl : spN ls = sp at *
        go_wp2_with fail
        go_ret
        have hB := (hD4.set 1 (.int .i64 ((k : Nat) : Int))).set 2 (.int .i64 ((sp : Nat) : Int))
        have k5 : Chg d W4 _ := (chg_set W4 d 1 (.int .i64 ((k : Nat) : Int))).trans (chg_set _ d 2 (.int .i64 ((sp : Nat) : Int)))
        exact ⟨by rw [HN0.out]; rfl, v4, by rw [HS.out]; exact h4.chgO k5 far1 far2, (mv4.mw d).trans (k5.mw b v4), fun _ => by rw [hsl]; exact hB, fun h => absurd HN0.out h⟩
      · have HN0 : Hid (rwN S ls = 5) := HN.out.trans h0
        rw [h0, show errV 5 = Err 5 from rfl]
        go_wp2_with fail
        go_ret
        exact ⟨by rw [HN0.out]; rfl, v4, by rw [HS.out]; exact h4, mv4.mw d, fun h => (by rw [HN0.out] at h; cases h), fun _ => hD4⟩
      · have HN0 : Hid (rwN S ls = 6) := HN.out.trans h0
        rw [h0, show errV 6 = Err 6 from rfl]
        go_wp2_with fail
        go_ret
        exact ⟨by rw [HN0.out]; rfl, v4, by rw [HS.out]; exact h4, mv4.mw d, fun h => (by rw [HN0.out] at h; cases h), fun _ => hD4⟩
    · obtain ⟨y, hy⟩ : ∃ y, vs[k]? = some y := ⟨vs[k], List.getElem?_eq_getElem (by omega)⟩
      obtain ⟨l, hl⟩ : ∃ l, ls[k]? = some l := ⟨ls[k], List.getElem?_eq_getElem (by omega)⟩
      obtain rfl := hp (by omega)
      have dy := keep_cell hbw (hr k y hy) (hg (by omega))
      have sy := (hx.each k y l hy hl).keep hbw
      have hlm := List.mem_of_getElem? hl
      have hbl := hb l hlm
      have hl14 := hr14 l hlm
      obtain ⟨qy, ny, cy, ey⟩ := sy.slice
      have hki : (k : Int) < (n : Int) := by omega
      have hkn : k < n := by omega
      have HT1 : Hid (spN (ls.take (k + 1)) = spN (ls.take k) + (8 + l.length)) := spN_next ls k l hl
      have HT2 : Hid (frms (ls.take (k + 1)) = frms (ls.take k) ++ frm l) := frms_next ls k l hl
      have HT3 : Hid (l.length ≤ 16376 → ∀ r ∈ ls.take (k + 1), r.length ≤ 16376) := fun h => all_next ls k l hl hall h
      have hmo := spN_mono ls (k + 1)
      rw [HT1.out] at hmo
      subst ey
      have hl8 := frms_len (ls.take k)
      obtain ⟨qa, ca, ea⟩ := HO.form
      rw [hl8] at ea
      subst ea
      have HLf : Hid ((frm l).length = 8 + l.length) := frm_len l
      by_cases hbig : 16376 < l.length
      · have hno : ¬ rwOK ls = true := fun h => by have := ((rwOK_iff ls).1 h).1 l hlm; omega
        have HN : Hid (rwN S ls = 7) := if_neg hno
        have HS : Hid (rwS S ls = S) := if_neg hno
        clear hno hr hp hg hb hr14 hall hx hy hl hlm HT1 HT2 HT3 hmo
        go_wp2_with (first
          | (refine bs_ls rfl rfl [_] [l] (by simp only [List.map_toArray, List.map_cons, List.map_nil]; rfl) (bsl1 _ _ _ _) rfl (by decide) rfl (each1 sy) ?_; intro W2 ls2 b2 k2)
          | (go_at_call 38; refine (wrap_noL _ _ _ _ ls2 (by intro l' hl'; simp at hl'; subst hl'; exact hl14) (by rw [flat_one]; exact hbig)).mono ?_; rintro e W3 ⟨rfl, b3⟩))
        go_ret
        have hb3 := ab_trans (ab_trans hbw b2) b3
        exact ⟨by rw [HN.out]; rfl, v, by rw [HS.out]; exact hT.keep hb3, mw_below v hb3, fun h => (by rw [HN.out] at h; cases h), fun _ => hD.keep hb3⟩
      · generalize hsk : spN (ls.take k) = sk at *
        generalize hnl : l.length = nl at *
        by_cases hfull : 1048576 - sk < 8 + nl
        · have hno : ¬ rwOK ls = true := fun h => by have := ((rwOK_iff ls).1 h).2; omega
          have HN : Hid (rwN S ls = 7) := if_neg hno
          have HS : Hid (rwS S ls = S) := if_neg hno
          have hfi : (1048576 : Int) - (sk : Int) < 8 + (nl : Int) := by omega
          clear hno hr hp hg hb hr14 hall hx hy hl hlm HT1 HT2 HT3 hmo
          go_wp2_with (first
            | (refine bs_ls rfl rfl [_] [l] (by simp only [List.map_toArray, List.map_cons, List.map_nil]; rfl) (bsl1 _ _ _ _) rfl (by decide) rfl (each1 sy) ?_; intro W2 ls2 b2 k2)
            | (go_at_call 38; refine (wrap_ok _ _ _ _ ls2 (by intro l' hl'; simp at hl'; subst hl'; exact hbl) (by rw [flat_one]; omega)).mono ?_; rw [flat_one]; rintro e W3 ⟨v3, rfl, O3, -, b3⟩; obtain ⟨q3, c3, e3⟩ := O3.form; rw [HLf.out] at e3; subst e3))
          go_ret
          have hb3 := ab_trans (ab_trans hbw b2) b3
          exact ⟨by rw [HN.out]; rfl, v, by rw [HS.out]; exact hT.keep hb3, mw_below v hb3, fun h => (by rw [HN.out] at h; cases h), fun _ => hD.keep hb3⟩
        · have hfi : ¬ (1048576 : Int) - (sk : Int) < 8 + (nl : Int) := by omega
          have HX : Hid (∀ r ∈ ls.take (k + 1), r.length ≤ 16376) := HT3.out (by omega)
          have HO' : wr.ownsRow w.heap.size 5 1 (.slice qa sk ca) sk (bys (frms (ls.take k))) := by have := HO; unfold Ow at this; rwa [hl8] at this
          clear hr hp hg hb hr14 hall hx hy hl hlm HT3 hmo HO
          go_wp2_with (first
            | (refine bs_ls rfl rfl [_] [l] (by simp only [List.map_toArray, List.map_cons, List.map_nil]; rfl) (bsl1 _ _ _ _) rfl (by decide) rfl (each1 sy) ?_; intro W2 ls2 b2 k2)
            | (go_at_call 38; refine (wrap_ok _ _ _ _ ls2 (by intro l' hl'; simp at hl'; subst hl'; exact hbl) (by rw [flat_one]; omega)).mono ?_; rw [flat_one]; rintro e W3 ⟨v3, rfl, O3, -, b3⟩; obtain ⟨q3, c3, e3⟩ := O3.form; rw [HLf.out] at e3; subst e3; have hb3 := ab_trans (ab_trans hbw b2) b3; have HO3 := own_keep (own_keep HO' b2) b3)
            | (at_builtin; refine app_t w.heap.size rfl rfl rfl HO3 rfl O3.sl HLf.out (by omega) hb3.size ?_; intro v5 W5 hown5 hgr5 hat5))
          have hb5 := hb3.trans (below_own HO3 hb3.size hgr5)
          exact ⟨⟨k + 1, by omega, rfl, by rw [HT2.out]; exact ow_of hown5, HX.out, by rw [HT1.out]; omega, hb5⟩, by simp only [intOf]; omega⟩
/-- Rows without a diary. -/
def wtN (ls : List (List Nat)) : Nat := if ls.all (fun r => decide (r.length ≤ 16376)) = true then 5 else 7
set_option maxHeartbeats 1000000 in
theorem dwithout_any (x : Value) (vs : List Value) (ls : List (List Nat)) (w : World) (hx : Ls w x vs ls) (hb : ∀ l ∈ ls, Byt l) (hr14 : ∀ l ∈ ls, l.length ≤ 200000000000000) :
    Calls Tryz.prog 130 #[x] w fun e w' => e = .returned (Err ((wtN ls : Nat) : Int)) ∧ Below w.heap.size w w' := by
  obtain ⟨q, cap, g, off, ep, hc, hm, hp, hg, hr⟩ := hx.open
  have hlen := hx.len
  subst ep
  generalize hn : ls.length = n at *
  have n7n := ne70
  go_enter Tryz.func130, Tryz.ntmps130
  go_wp2_with fail
  go_loopw [9] (fun i wr => ∃ k : Nat, k ≤ n ∧ i = .int .i64 (k : Int) ∧ (∀ r ∈ ls.take k, r.length ≤ 16376) ∧ Below w.heap.size w wr) (fun i _ => n - (intOf i).toNat)
  case atStart => exact ⟨0, by omega, rfl, by simp, Below.refl _ _⟩
  case round =>
    obtain ⟨k, hk, rfl, hall, hbw⟩ := hrel
    by_cases c : k = n
    · subst c
      rw [List.take_of_length_le (by omega)] at hall
      have HN : Hid (wtN ls = 5) := if_pos (by simpa using hall)
      clear hr hp hg hb hr14 hall hx
      go_wp2_with fail
      go_ret
      exact ⟨by rw [HN.out]; rfl, hbw⟩
    · obtain ⟨y, hy⟩ : ∃ y, vs[k]? = some y := ⟨vs[k], List.getElem?_eq_getElem (by omega)⟩
      obtain ⟨l, hl⟩ : ∃ l, ls[k]? = some l := ⟨ls[k], List.getElem?_eq_getElem (by omega)⟩
      obtain rfl := hp (by omega)
      have dy := keep_cell hbw (hr k y hy) (hg (by omega))
      have sy := (hx.each k y l hy hl).keep hbw
      have hlm := List.mem_of_getElem? hl
      have hbl := hb l hlm
      have hl14 := hr14 l hlm
      obtain ⟨qy, ny, cy, ey⟩ := sy.slice
      have hki : (k : Int) < (n : Int) := by omega
      have hkn : k < n := by omega
      have HT3 : Hid (l.length ≤ 16376 → ∀ r ∈ ls.take (k + 1), r.length ≤ 16376) := fun h => all_next ls k l hl hall h
      subst ey
      have HLf : Hid ((frm l).length = 8 + l.length) := frm_len l
      by_cases hbig : 16376 < l.length
      · have HN : Hid (wtN ls = 7) := if_neg (fun h => by have := (List.all_eq_true.1 h) l hlm; simp at this; omega)
        clear hr hp hg hb hr14 hall hx hy hl hlm HT3
        go_wp2_with (first
          | (refine bs_ls rfl rfl [_] [l] (by simp only [List.map_toArray, List.map_cons, List.map_nil]; rfl) (bsl1 _ _ _ _) rfl (by decide) rfl (each1 sy) ?_; intro W2 ls2 b2 k2)
          | (go_at_call 38; refine (wrap_noL _ _ _ _ ls2 (by intro l' hl'; simp at hl'; subst hl'; exact hl14) (by rw [flat_one]; exact hbig)).mono ?_; rintro e W3 ⟨rfl, b3⟩))
        go_ret
        exact ⟨by rw [HN.out]; rfl, ab_trans (ab_trans hbw b2) b3⟩
      · have HX : Hid (∀ r ∈ ls.take (k + 1), r.length ≤ 16376) := HT3.out (by omega)
        clear hr hp hg hb hr14 hall hx hy hl hlm HT3
        go_wp2_with (first
          | (refine bs_ls rfl rfl [_] [l] (by simp only [List.map_toArray, List.map_cons, List.map_nil]; rfl) (bsl1 _ _ _ _) rfl (by decide) rfl (each1 sy) ?_; intro W2 ls2 b2 k2)
          | (go_at_call 38; refine (wrap_ok _ _ _ _ ls2 (by intro l' hl'; simp at hl'; subst hl'; exact hbl) (by rw [flat_one]; omega)).mono ?_; rw [flat_one]; rintro e W3 ⟨v3, rfl, O3, -, b3⟩; obtain ⟨q3, c3, e3⟩ := O3.form; rw [HLf.out] at e3; subst e3))
        exact ⟨⟨k + 1, by omega, rfl, HX.out, ab_trans (ab_trans hbw b2) b3⟩, by simp only [intOf]; omega⟩
theorem drewrite_nil (q : Option Addr) (nx cx : Nat) (vs : List Value) (ls : List (List Nat)) (w : World) (hx : Ls w (.slice q nx cx) vs ls) (hb : ∀ l ∈ ls, Byt l) (hr14 : ∀ l ∈ ls, l.length ≤ 200000000000000) :
    Calls Tryz.prog 101 #[.pointer none, .slice q nx cx] w fun e w' => e = .returned (Err ((wtN ls : Nat) : Int)) ∧ Below w.heap.size w w' := by
  go_enter Tryz.func101, Tryz.ntmps101
  go_wp2_with (go_at_call 130; refine (dwithout_any _ _ _ _ hx hb hr14).mono ?_; rintro e W2 ⟨rfl, b2⟩)
  go_ret
  exact ⟨rfl, b2⟩
end Go.Proofs.YteffpgodookebaaGreat
namespace Go.Proofs.YteffpgodookebaaGreat
open Go.RowKit
set_option linter.unusedVariables false
set_option maxRecDepth 100000

/-- Rows that fit. -/
def Rok (rs : List (List Nat)) : Prop := ∀ r ∈ rs, r.length ≤ 16376 ∧ Byt r
theorem Rok.len {rs : List (List Nat)} (h : Rok rs) : ∀ r ∈ rs, r.length ≤ 16376 := fun r hr => (h r hr).1
theorem Rok.byt {rs : List (List Nat)} (h : Rok rs) : ∀ r ∈ rs, Byt r := fun r hr => (h r hr).2
theorem Rok.nil : Rok [] := fun r hr => by cases hr
theorem Rok.snoc {rs : List (List Nat)} {m : List Nat} (h : Rok rs) (hm : m.length ≤ 16376) (hb : Byt m) : Rok (rs ++ [m]) := fun r hr => by
  rcases List.mem_append.1 hr with h1 | h1
  · exact h r h1
  · simp at h1; subst h1; exact ⟨hm, hb⟩
theorem dopen_up (base b : Nat) (v : Value) (rs : List (List Nat)) (s n : Nat) (w : World) (hT : Tp w base b v (up (frms rs) s n)) (hst : n < 4611686018427387000) (hrs : Rok rs) :
    Calls Tryz.prog 45 #[tptr b] w fun e w' => ∃ d q c vs v', e = .returned (.tuple #[tptr d, .slice q rs.length c, .nilIface]) ∧ w.heap.size ≤ d ∧ Blk w' d (dcs b rs.length (spN rs)) 172 ∧ Lis w' w.heap.size (.slice q rs.length c) vs rs ∧ Tp w' base b v' (up (frms rs) s n) ∧ Mv b w w' v v' := by
  refine (dopen_any base b v _ w hT hst (frms_byt hrs.byt)).mono ?_
  obtain ⟨h1, h2⟩ := op_up rs hrs.len s n
  rintro e w' ⟨⟨-, h3⟩, v', h4, h5⟩
  rw [h2] at h4
  obtain ⟨d, vl, vs, he, hd, hB, hL⟩ := h3 h1
  have e1 : spt (up (frms rs) s n).l = rs := spt_frms rs hrs.len
  rw [e1] at hB hL
  obtain ⟨q, c, e2, -⟩ := hL.ls.row
  rw [hL.ls.len] at e2
  subst e2
  exact ⟨d, q, c, vs, v', he, hd, hB, hL, h4, h5⟩
theorem dadd_up (base b d nr ns : Nat) (v x : Value) (l m : List Nat) (s n : Nat) (w : World) (hT : Tp w base b v (up l s n)) (hst : n < 4611686018427387000) (hD : Blk w d (dcs b nr ns) 172) (hx : Sl w x m) (hb : Byt m) (hm : m.length ≤ 16376) (hnr : nr ≤ 4611686018427387904) (hns : ns ≤ 4611686018427387904) (hfit : l.length + (8 + m.length) ≤ 1048576) :
    Calls Tryz.prog 103 #[tptr d, x] w fun e w' => e = .returned .nilIface ∧ ∃ v', Tp w' base b v' (up (l ++ frm m) (l.length + (8 + m.length)) (n + 2)) ∧ Mw b d w w' v v' ∧ Blk w' d (dcs b (nr + 1) (ns + (8 + m.length))) 172 := by
  obtain ⟨h1, h2⟩ := wr_up l (frm m) s n (by rw [frm_len]; exact hfit)
  refine (dadd_any base b d nr ns v x m _ w hT hst hD hx hb hm hnr hns).mono ?_
  rw [h1, h2, List.length_append, frm_len]
  rintro e w' ⟨rfl, v', h3, h4, h5, -⟩
  exact ⟨rfl, v', h3, h4, h5 rfl⟩
theorem Mw.blk {W W' : World} {b d : Nat} {v v' : Value} {k : Nat} {xs : Array Value} {t : TypeId} (m : Mw b d W W' v v') (h : Blk W k xs t) (h1 : k ≠ b) (h2 : k ≠ d) (h3 : v.ownBlock ≠ some k) : Blk W' k xs t := by
  unfold Blk
  rw [m.other k h.lt h1 h2 h3]
  exact h
theorem str_a : strB [97] = ⟨#[97]⟩ := by decide +kernel
theorem str_b : strB [98] = ⟨#[98]⟩ := by decide +kernel
theorem byt_a : Byt [97] := by intro x hx; simp at hx; omega
theorem byt_b : Byt [98] := by intro x hx; simp at hx; omega
abbrev tsA : TS := ⟨frm [97], 9, 2, true, 1, false, 0, false⟩
theorem alv_N : wrN tsA (frm [98]) = 5 := by decide +kernel
theorem alv_S : crS (wrS tsA (frm [98])) 100 = up (frms [[97], [98]]) 18 3 := by kernel_rfl
theorem rok_ab : Rok [[97], [98]] := by
  intro r hr
  simp at hr
  rcases hr with rfl | rfl
  · exact ⟨by decide, byt_a⟩
  · exact ⟨by decide, byt_b⟩
end Go.Proofs.YteffpgodookebaaGreat
