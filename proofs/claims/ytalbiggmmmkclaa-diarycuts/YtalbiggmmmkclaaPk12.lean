/-
  package diary in memory: Rewrite, without.
  A diary on a tape that is up; estuarylaw07.alive.
  What comes in: a row of calls; estuarylaw06.long; a region's S may be made narrower on the way.
  What comes in to the laws of diaries: bytes and lists of bytes with their sizes, rows of truth values, the structs of the laws.
-/
import Derived.Test.YtalbiggmmmkclaaPk11
import Derived.Test.YtalbiggmmmkclaaPk08
import Derived.Test.YtalbiggmmmkclaaPk10
import Derived.SizedLaws
namespace Go.Proofs.Ytalbiggmmmkclaa
open Go.RowKit
set_option linter.unusedVariables false
set_option maxRecDepth 100000

/-- Rows that together find room. -/
def rwOK (ls : List (List Nat)) : Bool := ls.all (fun r => decide (r.length ≤ 16376)) && decide (spN ls ≤ 1048576)
theorem rwOK_iff (ls : List (List Nat)) : rwOK ls = true ↔ (∀ r ∈ ls, r.length ≤ 16376) ∧ spN ls ≤ 1048576 := by simp [rwOK]
/-- A Rewrite's error, and the tape behind it. -/
def rwN (S : TS) (ls : List (List Nat)) : Nat := if rwOK ls = true then stN S else 7
def rwS (S : TS) (ls : List (List Nat)) : TS := if rwOK ls = true then rpS S (frms ls) else S
theorem spN_next (ls : List (List Nat)) (k : Nat) (l : List Nat) (h : ls[k]? = some l) : spN (ls.take (k + 1)) = spN (ls.take k) + (8 + l.length) := by rw [List.take_add_one, h]; exact spN_snoc _ _
theorem frms_next (ls : List (List Nat)) (k : Nat) (l : List Nat) (h : ls[k]? = some l) : frms (ls.take (k + 1)) = frms (ls.take k) ++ frm l := by rw [List.take_add_one, h]; exact frms_snoc _ _
theorem spN_mono (ls : List (List Nat)) (k : Nat) : spN (ls.take k) ≤ spN ls := by
  have := spN_app (ls.take k) (ls.drop k)
  rw [List.take_append_drop] at this
  omega
theorem all_next {p : List Nat → Prop} (ls : List (List Nat)) (k : Nat) (l : List Nat) (h : ls[k]? = some l) (ha : ∀ r ∈ ls.take k, p r) (hl : p l) : ∀ r ∈ ls.take (k + 1), p r := by
  rw [List.take_add_one, h]
  intro r hr
  rcases List.mem_append.1 hr with h1 | h1
  · exact ha r h1
  · simp at h1; subst h1; exact hl
set_option maxHeartbeats 2000000 in
theorem drewrite_any (base b d nr ns : Nat) (v x : Value) (vs : List Value) (ls : List (List Nat)) (S : TS) (w : World) (hT : Tp w base b v S) (hst : S.steps < 4611686018427387000) (hD : Blk w d (dcs b nr ns) 80) (hx : Ls w x vs ls) (hb : ∀ l ∈ ls, Byt l) (hr14 : ∀ l ∈ ls, l.length ≤ 200000000000000) :
    Calls Try.prog 18 #[tptr d, x] w fun e w' => e = .returned (errV (rwN S ls)) ∧ ∃ v', Tp w' base b v' (rwS S ls) ∧ Mw b d w w' v v' ∧ (rwN S ls = 0 → Blk w' d (dcs b ls.length (spN ls)) 80) ∧ (rwN S ls ≠ 0 → Blk w' d (dcs b nr ns) 80) := by
  obtain ⟨q, cap, g, off, ep, hc, hm, hp, hg, hr⟩ := hx.open
  have hlen := hx.len
  subst ep
  generalize hn : ls.length = n at *
  have n7n := ne70
  go_enter Try.func18, Try.ntmps18
  go_wp2_with fail
  go_loopw [5, 17] (fun y i wr => ∃ k : Nat, k ≤ n ∧ i = .int .i64 (k : Int) ∧ Ow wr w.heap.size y (frms (ls.take k)) ∧ (∀ r ∈ ls.take k, r.length ≤ 16376) ∧ spN (ls.take k) ≤ 1048576 ∧ Below w.heap.size w wr) (fun _ i _ => n - (intOf i).toNat)
  case atStart => exact ⟨0, by omega, rfl, World.ownsRow_nil _ _ _ _, by simp, by simp [spN], Below.refl _ _⟩
  case round =>
    obtain ⟨k, hk, rfl, HO, hall, hsp, hbw⟩ := hrel
    by_cases c : k = n
    · subst c
      rw [List.take_of_length_le (by omega)] at HO hall hsp
      have hok := (rwOK_iff ls).2 ⟨hall, hsp⟩
      have HN : Hid (rwN S ls = stN S) := if_pos hok
      have HS : Hid (rwS S ls = rpS S (frms ls)) := if_pos hok
      have hl8 := frms_len ls
      have HR : Hid (rpN S (frms ls).length = stN S) := if_pos (by omega)
      have hTr := hT.keep hbw
      have hDr := hD.keep hbw
      have d0 := hDr.at (i := 0) rfl
      have t0 := stb_own hT HO
      obtain ⟨qa, ca, ea⟩ := HO.form
      rw [hl8] at ea
      subst ea
      have n5n := ne5n
      have n6n := ne6n
      clear hr hp hg hb hr14 hall hok HO hT hD hx
      go_upto_region 15 with (go_at_call 37; refine (replace_any _ _ _ _ _ _ _ hTr (by omega) t0).mono ?_; rw [HR.out]; rintro e W4 ⟨rfl, v4, h4, m4⟩)
      have mv4 := (mv_below (b := b) v hbw).trans m4
      have hD4 := hDr.mv hTr m4 (by decide) (by decide)
      obtain ⟨far1, far2⟩ := tp_far h4 hD4
      have d1 := hD4.at (i := 1) rfl
      have d2 := hD4.at (i := 2) rfl
      have f1 := hD4.frozen 1
      have f2 := hD4.frozen 2
      clear m4 t0 hTr hDr d0 hbw
      rcases stN_of S with h0 | h0 | h0
      · have HN0 : Hid (rwN S ls = 0) := HN.out.trans h0
        rw [errV_ok h0]
        generalize hsl : spN ls = sp at *
        go_wp2_with fail
        go_ret
        have hB := (hD4.set 1 (.int .i64 ((k : Nat) : Int))).set 2 (.int .i64 ((sp : Nat) : Int))
        have k5 : Chg d W4 _ := (chg_set W4 d 1 (.int .i64 ((k : Nat) : Int))).trans (chg_set _ d 2 (.int .i64 ((sp : Nat) : Int)))
        exact ⟨by rw [HN0.out]; rfl, v4, by rw [HS.out]; exact h4.chgO k5 far1 far2, (mv4.mw d).trans (k5.mw b v4), fun _ => by rw [hsl]; exact hB, fun h => absurd HN0.out h⟩
      · have HN0 : Hid (rwN S ls = 5) := HN.out.trans h0
        rw [h0, show errV 5 = Err 5 from rfl]
        go_wp2_with fail
        go_ret
        exact ⟨by rw [HN0.out]; rfl, v4, by rw [HS.out]; exact h4, mv4.mw d, fun h => (by rw [HN0.out] at h; cases h), fun _ => hD4⟩
      · have HN0 : Hid (rwN S ls = 6) := HN.out.trans h0
        rw [h0, show errV 6 = Err 6 from rfl]
        go_wp2_with fail
        go_ret
        exact ⟨by rw [HN0.out]; rfl, v4, by rw [HS.out]; exact h4, mv4.mw d, fun h => (by rw [HN0.out] at h; cases h), fun _ => hD4⟩
    · obtain ⟨y, hy⟩ : ∃ y, vs[k]? = some y := ⟨vs[k], List.getElem?_eq_getElem (by omega)⟩
      obtain ⟨l, hl⟩ : ∃ l, ls[k]? = some l := ⟨ls[k], List.getElem?_eq_getElem (by omega)⟩
      obtain rfl := hp (by omega)
      have dy := keep_cell hbw (hr k y hy) (hg (by omega))
      have sy := (hx.each k y l hy hl).keep hbw
      have hlm := List.mem_of_getElem? hl
      have hbl := hb l hlm
      have hl14 := hr14 l hlm
      obtain ⟨qy, ny, cy, ey⟩ := sy.slice
      have hki : (k : Int) < (n : Int) := by omega
      have hkn : k < n := by omega
      have HT1 : Hid (spN (ls.take (k + 1)) = spN (ls.take k) + (8 + l.length)) := spN_next ls k l hl
      have HT2 : Hid (frms (ls.take (k + 1)) = frms (ls.take k) ++ frm l) := frms_next ls k l hl
      have HT3 : Hid (l.length ≤ 16376 → ∀ r ∈ ls.take (k + 1), r.length ≤ 16376) := fun h => all_next ls k l hl hall h
      have hmo := spN_mono ls (k + 1)
      rw [HT1.out] at hmo
      subst ey
      have hl8 := frms_len (ls.take k)
      obtain ⟨qa, ca, ea⟩ := HO.form
      rw [hl8] at ea
      subst ea
      have HLf : Hid ((frm l).length = 8 + l.length) := frm_len l
      by_cases hbig : 16376 < l.length
      · have hno : ¬ rwOK ls = true := fun h => by have := ((rwOK_iff ls).1 h).1 l hlm; omega
        have HN : Hid (rwN S ls = 7) := if_neg hno
        have HS : Hid (rwS S ls = S) := if_neg hno
        clear hno hr hp hg hb hr14 hall hx hy hl hlm HT1 HT2 HT3 hmo
        go_wp2_with (first
          | (refine bs_ls rfl rfl [_] [l] (by simp only [List.map_toArray, List.map_cons, List.map_nil]; rfl) (bsl1 _ _ _ _) rfl (by decide) rfl (each1 sy) ?_; intro W2 ls2 b2 k2)
          | (go_at_call 40; refine (wrap_noL _ _ _ _ ls2 (by intro l' hl'; simp at hl'; subst hl'; exact hl14) (by rw [flat_one]; exact hbig)).mono ?_; rintro e W3 ⟨rfl, b3⟩))
        go_ret
        have hb3 := ab_trans (ab_trans hbw b2) b3
        exact ⟨by rw [HN.out]; rfl, v, by rw [HS.out]; exact hT.keep hb3, mw_below v hb3, fun h => (by rw [HN.out] at h; cases h), fun _ => hD.keep hb3⟩
      · generalize hsk : spN (ls.take k) = sk at *
        generalize hnl : l.length = nl at *
        by_cases hfull : 1048576 - sk < 8 + nl
        · have hno : ¬ rwOK ls = true := fun h => by have := ((rwOK_iff ls).1 h).2; omega
          have HN : Hid (rwN S ls = 7) := if_neg hno
          have HS : Hid (rwS S ls = S) := if_neg hno
          have hfi : (1048576 : Int) - (sk : Int) < 8 + (nl : Int) := by omega
          clear hno hr hp hg hb hr14 hall hx hy hl hlm HT1 HT2 HT3 hmo
          go_wp2_with (first
            | (refine bs_ls rfl rfl [_] [l] (by simp only [List.map_toArray, List.map_cons, List.map_nil]; rfl) (bsl1 _ _ _ _) rfl (by decide) rfl (each1 sy) ?_; intro W2 ls2 b2 k2)
            | (go_at_call 40; refine (wrap_ok _ _ _ _ ls2 (by intro l' hl'; simp at hl'; subst hl'; exact hbl) (by rw [flat_one]; omega)).mono ?_; rw [flat_one]; rintro e W3 ⟨v3, rfl, O3, -, b3⟩; obtain ⟨q3, c3, e3⟩ := O3.form; rw [HLf.out] at e3; subst e3))
          go_ret
          have hb3 := ab_trans (ab_trans hbw b2) b3
          exact ⟨by rw [HN.out]; rfl, v, by rw [HS.out]; exact hT.keep hb3, mw_below v hb3, fun h => (by rw [HN.out] at h; cases h), fun _ => hD.keep hb3⟩
        · have hfi : ¬ (1048576 : Int) - (sk : Int) < 8 + (nl : Int) := by omega
          have HX : Hid (∀ r ∈ ls.take (k + 1), r.length ≤ 16376) := HT3.out (by omega)
          have HO' : wr.ownsRow w.heap.size 5 1 (.slice qa sk ca) sk (bys (frms (ls.take k))) := by have := HO; unfold Ow at this; rwa [hl8] at this
          clear hr hp hg hb hr14 hall hx hy hl hlm HT3 hmo HO
          go_wp2_with (first
            | (refine bs_ls rfl rfl [_] [l] (by simp only [List.map_toArray, List.map_cons, List.map_nil]; rfl) (bsl1 _ _ _ _) rfl (by decide) rfl (each1 sy) ?_; intro W2 ls2 b2 k2)
            | (go_at_call 40; refine (wrap_ok _ _ _ _ ls2 (by intro l' hl'; simp at hl'; subst hl'; exact hbl) (by rw [flat_one]; omega)).mono ?_; rw [flat_one]; rintro e W3 ⟨v3, rfl, O3, -, b3⟩; obtain ⟨q3, c3, e3⟩ := O3.form; rw [HLf.out] at e3; subst e3; have hb3 := ab_trans (ab_trans hbw b2) b3; have HO3 := own_keep (own_keep HO' b2) b3)
            | (at_builtin; refine app_t w.heap.size rfl rfl rfl HO3 rfl O3.sl HLf.out (by omega) hb3.size ?_; intro v5 W5 hown5 hgr5 hat5))
          have hb5 := hb3.trans (below_own HO3 hb3.size hgr5)
          exact ⟨⟨k + 1, by omega, rfl, by rw [HT2.out]; exact ow_of hown5, HX.out, by rw [HT1.out]; omega, hb5⟩, by simp only [intOf]; omega⟩
/-- Rows without a diary. -/
def wtN (ls : List (List Nat)) : Nat := if ls.all (fun r => decide (r.length ≤ 16376)) = true then 5 else 7
set_option maxHeartbeats 1000000 in
theorem dwithout_any (x : Value) (vs : List Value) (ls : List (List Nat)) (w : World) (hx : Ls w x vs ls) (hb : ∀ l ∈ ls, Byt l) (hr14 : ∀ l ∈ ls, l.length ≤ 200000000000000) :
    Calls Try.prog 46 #[x] w fun e w' => e = .returned (Err ((wtN ls : Nat) : Int)) ∧ Below w.heap.size w w' := by
  obtain ⟨q, cap, g, off, ep, hc, hm, hp, hg, hr⟩ := hx.open
  have hlen := hx.len
  subst ep
  generalize hn : ls.length = n at *
  have n7n := ne70
  go_enter Try.func46, Try.ntmps46
  go_wp2_with fail
  go_loopw [9] (fun i wr => ∃ k : Nat, k ≤ n ∧ i = .int .i64 (k : Int) ∧ (∀ r ∈ ls.take k, r.length ≤ 16376) ∧ Below w.heap.size w wr) (fun i _ => n - (intOf i).toNat)
  case atStart => exact ⟨0, by omega, rfl, by simp, Below.refl _ _⟩
  case round =>
    obtain ⟨k, hk, rfl, hall, hbw⟩ := hrel
    by_cases c : k = n
    · subst c
      rw [List.take_of_length_le (by omega)] at hall
      have HN : Hid (wtN ls = 5) := if_pos (by simpa using hall)
      clear hr hp hg hb hr14 hall hx
      go_wp2_with fail
      go_ret
      exact ⟨by rw [HN.out]; rfl, hbw⟩
    · obtain ⟨y, hy⟩ : ∃ y, vs[k]? = some y := ⟨vs[k], List.getElem?_eq_getElem (by omega)⟩
      obtain ⟨l, hl⟩ : ∃ l, ls[k]? = some l := ⟨ls[k], List.getElem?_eq_getElem (by omega)⟩
      obtain rfl := hp (by omega)
      have dy := keep_cell hbw (hr k y hy) (hg (by omega))
      have sy := (hx.each k y l hy hl).keep hbw
      have hlm := List.mem_of_getElem? hl
      have hbl := hb l hlm
      have hl14 := hr14 l hlm
      obtain ⟨qy, ny, cy, ey⟩ := sy.slice
      have hki : (k : Int) < (n : Int) := by omega
      have hkn : k < n := by omega
      have HT3 : Hid (l.length ≤ 16376 → ∀ r ∈ ls.take (k + 1), r.length ≤ 16376) := fun h => all_next ls k l hl hall h
      subst ey
      have HLf : Hid ((frm l).length = 8 + l.length) := frm_len l
      by_cases hbig : 16376 < l.length
      · have HN : Hid (wtN ls = 7) := if_neg (fun h => by have := (List.all_eq_true.1 h) l hlm; simp at this; omega)
        clear hr hp hg hb hr14 hall hx hy hl hlm HT3
        go_wp2_with (first
          | (refine bs_ls rfl rfl [_] [l] (by simp only [List.map_toArray, List.map_cons, List.map_nil]; rfl) (bsl1 _ _ _ _) rfl (by decide) rfl (each1 sy) ?_; intro W2 ls2 b2 k2)
          | (go_at_call 40; refine (wrap_noL _ _ _ _ ls2 (by intro l' hl'; simp at hl'; subst hl'; exact hl14) (by rw [flat_one]; exact hbig)).mono ?_; rintro e W3 ⟨rfl, b3⟩))
        go_ret
        exact ⟨by rw [HN.out]; rfl, ab_trans (ab_trans hbw b2) b3⟩
      · have HX : Hid (∀ r ∈ ls.take (k + 1), r.length ≤ 16376) := HT3.out (by omega)
        clear hr hp hg hb hr14 hall hx hy hl hlm HT3
        go_wp2_with (first
          | (refine bs_ls rfl rfl [_] [l] (by simp only [List.map_toArray, List.map_cons, List.map_nil]; rfl) (bsl1 _ _ _ _) rfl (by decide) rfl (each1 sy) ?_; intro W2 ls2 b2 k2)
          | (go_at_call 40; refine (wrap_ok _ _ _ _ ls2 (by intro l' hl'; simp at hl'; subst hl'; exact hbl) (by rw [flat_one]; omega)).mono ?_; rw [flat_one]; rintro e W3 ⟨v3, rfl, O3, -, b3⟩; obtain ⟨q3, c3, e3⟩ := O3.form; rw [HLf.out] at e3; subst e3))
        exact ⟨⟨k + 1, by omega, rfl, HX.out, ab_trans (ab_trans hbw b2) b3⟩, by simp only [intOf]; omega⟩
theorem drewrite_nil (q : Option Addr) (nx cx : Nat) (vs : List Value) (ls : List (List Nat)) (w : World) (hx : Ls w (.slice q nx cx) vs ls) (hb : ∀ l ∈ ls, Byt l) (hr14 : ∀ l ∈ ls, l.length ≤ 200000000000000) :
    Calls Try.prog 18 #[.pointer none, .slice q nx cx] w fun e w' => e = .returned (Err ((wtN ls : Nat) : Int)) ∧ Below w.heap.size w w' := by
  go_enter Try.func18, Try.ntmps18
  go_wp2_with (go_at_call 46; refine (dwithout_any _ _ _ _ hx hb hr14).mono ?_; rintro e W2 ⟨rfl, b2⟩)
  go_ret
  exact ⟨rfl, b2⟩
end Go.Proofs.Ytalbiggmmmkclaa
namespace Go.Proofs.Ytalbiggmmmkclaa
open Go.RowKit
set_option linter.unusedVariables false
set_option maxRecDepth 100000

/-- Rows that fit. -/
def Rok (rs : List (List Nat)) : Prop := ∀ r ∈ rs, r.length ≤ 16376 ∧ Byt r
theorem Rok.len {rs : List (List Nat)} (h : Rok rs) : ∀ r ∈ rs, r.length ≤ 16376 := fun r hr => (h r hr).1
theorem Rok.byt {rs : List (List Nat)} (h : Rok rs) : ∀ r ∈ rs, Byt r := fun r hr => (h r hr).2
theorem Rok.nil : Rok [] := fun r hr => by cases hr
theorem Rok.snoc {rs : List (List Nat)} {m : List Nat} (h : Rok rs) (hm : m.length ≤ 16376) (hb : Byt m) : Rok (rs ++ [m]) := fun r hr => by
  rcases List.mem_append.1 hr with h1 | h1
  · exact h r h1
  · simp at h1; subst h1; exact ⟨hm, hb⟩
theorem dopen_up (base b : Nat) (v : Value) (rs : List (List Nat)) (s n : Nat) (w : World) (hT : Tp w base b v (up (frms rs) s n)) (hst : n < 4611686018427387000) (hrs : Rok rs) :
    Calls Try.prog 12 #[tptr b] w fun e w' => ∃ d q c vs v', e = .returned (.tuple #[tptr d, .slice q rs.length c, .nilIface]) ∧ w.heap.size ≤ d ∧ Blk w' d (dcs b rs.length (spN rs)) 80 ∧ Lis w' w.heap.size (.slice q rs.length c) vs rs ∧ Tp w' base b v' (up (frms rs) s n) ∧ Mv b w w' v v' := by
  refine (dopen_any base b v _ w hT hst (frms_byt hrs.byt)).mono ?_
  obtain ⟨h1, h2⟩ := op_up rs hrs.len s n
  rintro e w' ⟨⟨-, h3⟩, v', h4, h5⟩
  rw [h2] at h4
  obtain ⟨d, vl, vs, he, hd, hB, hL⟩ := h3 h1
  have e1 : spt (up (frms rs) s n).l = rs := spt_frms rs hrs.len
  rw [e1] at hB hL
  obtain ⟨q, c, e2, -⟩ := hL.ls.row
  rw [hL.ls.len] at e2
  subst e2
  exact ⟨d, q, c, vs, v', he, hd, hB, hL, h4, h5⟩
theorem dadd_up (base b d nr ns : Nat) (v x : Value) (l m : List Nat) (s n : Nat) (w : World) (hT : Tp w base b v (up l s n)) (hst : n < 4611686018427387000) (hD : Blk w d (dcs b nr ns) 80) (hx : Sl w x m) (hb : Byt m) (hm : m.length ≤ 16376) (hnr : nr ≤ 4611686018427387904) (hns : ns ≤ 4611686018427387904) (hfit : l.length + (8 + m.length) ≤ 1048576) :
    Calls Try.prog 16 #[tptr d, x] w fun e w' => e = .returned .nilIface ∧ ∃ v', Tp w' base b v' (up (l ++ frm m) (l.length + (8 + m.length)) (n + 2)) ∧ Mw b d w w' v v' ∧ Blk w' d (dcs b (nr + 1) (ns + (8 + m.length))) 80 := by
  obtain ⟨h1, h2⟩ := wr_up l (frm m) s n (by rw [frm_len]; exact hfit)
  refine (dadd_any base b d nr ns v x m _ w hT hst hD hx hb hm hnr hns).mono ?_
  rw [h1, h2, List.length_append, frm_len]
  rintro e w' ⟨rfl, v', h3, h4, h5, -⟩
  exact ⟨rfl, v', h3, h4, h5 rfl⟩
theorem Mw.blk {W W' : World} {b d : Nat} {v v' : Value} {k : Nat} {xs : Array Value} {t : TypeId} (m : Mw b d W W' v v') (h : Blk W k xs t) (h1 : k ≠ b) (h2 : k ≠ d) (h3 : v.ownBlock ≠ some k) : Blk W' k xs t := by
  unfold Blk
  rw [m.other k h.lt h1 h2 h3]
  exact h
theorem str_a : strB [97] = ⟨#[97]⟩ := by decide +kernel
theorem str_b : strB [98] = ⟨#[98]⟩ := by decide +kernel
theorem byt_a : Byt [97] := by intro x hx; simp at hx; omega
theorem byt_b : Byt [98] := by intro x hx; simp at hx; omega
abbrev tsA : TS := ⟨frm [97], 9, 2, true, 1, false, 0, false⟩
theorem alv_N : wrN tsA (frm [98]) = 5 := by decide +kernel
theorem alv_S : crS (wrS tsA (frm [98])) 100 = up (frms [[97], [98]]) 18 3 := by kernel_rfl
theorem rok_ab : Rok [[97], [98]] := by
  intro r hr
  simp at hr
  rcases hr with rfl | rfl
  · exact ⟨by decide, byt_a⟩
  · exact ⟨by decide, byt_b⟩
set_option maxHeartbeats 2000000 in
theorem alive7_any (w : World) : Calls Try.prog 9 #[] w fun e w' => e = .returned (.bool true) ∧ Below w.heap.size w w' := by
  have HX : Hid (strB [97] = ⟨#[97]⟩) := str_a
  have HY : Hid (strB [98] = ⟨#[98]⟩) := str_b
  have n55 : ∀ w, (binOp .neq 33 (Err 5) (Err 5)).run Try.prog w = .ok (.bool false) w := fun w => by kernel_rfl
  have n00 := ne00
  have e00 := eq00
  go_enter Try.func9, Try.ntmps9
  go_upto_region 3 with (first
    | (go_at_call 11; refine (new_any _).mono ?_; rintro e W1 ⟨rfl, h1, b1⟩)
    | (go_at_call 12; refine (dopen_up _ _ _ [] 0 0 _ h1 (by omega) Rok.nil).mono ?_; rintro e W2 ⟨d, q2, c2, vs2, v2, rfl, hd2, hD2, L2, h2, m2⟩))
  have bw2 := b1.trans (h1.below m2)
  clear L2 m2 h1
  go_wp2_with (first
    | (refine bs_by rfl rfl [97] (vs := #[(0, .int .u8 97)]) (by simp only [List.map_toArray, List.map_cons, List.map_nil]; rfl) (bsb1 97 _) rfl (by decide) ?_; intro W3 n3 b3 z3; clear z3)
    | (refine cv_t rfl rfl rfl n3 ?_; intro X3 s3 k3; have c3 := below_mark b3 k3; have h3 := h2.keep c3; have hD3 := hD2.keep c3))
  refine (dadd_up _ _ _ _ _ _ _ _ _ _ _ _ h3 (by omega) hD3 s3 byt_a (by decide) (by decide) (by decide) (by decide)).mono ?_
  rintro e W4 ⟨rfl, v4, h4, m4, hD4⟩
  have hwd : w.heap.size ≤ d := Nat.le_trans b1.size hd2
  have bw4 := (ab_trans bw2 c3).trans (m4.below h3 hwd)
  have h4' : Tp W4 w.heap.size w.heap.size v4 (up (frm [97]) 9 2) := h4
  have hD4' : Blk W4 d (dcs w.heap.size 1 9) 80 := hD4
  clear m4 h4 hD4 h3 hD3 s3 k3 c3 n3 b3 h2 hD2 bw2
  go_wp2_with fail
  refine (arm_ok _ _ _ _ 1 _ h4' (by omega)).mono ?_
  rintro e W5 ⟨rfl, h5, m5⟩
  have hD5 := hD4'.mv h4' m5 (by decide) (by decide)
  have bw5 := bw4.trans (h4'.below m5)
  have h5' : Tp W5 w.heap.size w.heap.size v4 tsA := h5
  clear m5 h4' hD4' h5 bw4
  go_wp2_with (first
    | (refine bs_by rfl rfl [98] (vs := #[(0, .int .u8 98)]) (by simp only [List.map_toArray, List.map_cons, List.map_nil]; rfl) (bsb1 98 _) rfl (by decide) ?_; intro W6 n6 b6 z6; clear z6)
    | (refine cv_t rfl rfl rfl n6 ?_; intro X6 s6 k6; have c6 := below_mark b6 k6; have h6 := h5'.keep c6; have hD6 := hD5.keep c6))
  refine (dadd_any _ _ _ _ _ _ _ _ _ _ h6 (by decide) hD6 s6 byt_b (by decide) (by decide) (by decide)).mono ?_
  rw [alv_N, show errV 5 = Err 5 from rfl]
  rintro e W7 ⟨rfl, v7, h7, m7, -, -⟩
  have bw7 := (ab_trans bw5 c6).trans (m7.below h6 hwd)
  clear m7 h6 hD6 s6 k6 c6 n6 b6 h5' hD5 bw5
  go_upto_region 6 with (go_at_call 25; refine (crash_any _ _ _ _ 100 _ h7 (by omega)).mono ?_; rw [alv_S]; rintro e W8 ⟨rfl, v8, h8, m8⟩)
  have bw8 := bw7.trans (h7.below m8)
  clear m8 h7 bw7
  go_upto_region 7 with (go_at_call 12; refine (dopen_up _ _ _ [[97], [98]] 18 3 _ h8 (by omega) rok_ab).mono ?_; rintro e W9 ⟨d9, q9, c9, vs9, v9, rfl, -, -, L9, h9, m9⟩)
  have bw9 := bw8.trans (h8.below m9)
  clear m9 h8 bw8 h9
  obtain ⟨qq, cap, g, off, ee, -, -, hp, -, hr⟩ := L9.ls.open
  have hlen := L9.ls.len
  obtain ⟨x0, x1, ex⟩ : ∃ x0 x1, vs9 = [x0, x1] := by
    match vs9, hlen with
    | [x0, x1], _ => exact ⟨x0, x1, rfl⟩
  subst ex
  cases ee
  obtain rfl := hp (by decide)
  have r0 := hr 0 x0 rfl
  have r1 := hr 1 x1 rfl
  rw [Nat.add_zero] at r0
  have t0 := L9.ls.each 0 x0 [97] rfl rfl
  have t1 := L9.ls.each 1 x1 [98] rfl rfl
  obtain ⟨q0, n0, k0, e0⟩ := t0.slice
  obtain ⟨q1, n1, k1, e1⟩ := t1.slice
  subst e0
  subst e1
  have a0 := sl_str t0
  have a1 := sl_str t1
  rw [HX.out] at a0
  rw [HY.out] at a1
  clear L9 hr t0 t1 hlen
  go_wp2_with fail
  go_ret
  exact ⟨rfl, bw9⟩
end Go.Proofs.Ytalbiggmmmkclaa
namespace Go.Proofs.Ytalbiggmmmkclaa
open Go.ChangeShapes Go.WideShapes Go.ChangeAt Go.RowKit
set_option linter.unusedVariables false

theorem wpAnyH_less {P : Program} {md : Region.Mode} {ops : Array Oper} {Q : Exit → Act → World → Prop} {S S' : World → Prop} (hS : ∀ w, S' w → S w) : ∀ (n : Nat) (l : Array Bool) (a : Act) (w : World), wpAnyH P md ops Q S' n l a w → wpAnyH P md ops Q S n l a w
  | 0, _, _, _, h => h
  | n + 1, _, _, _, h => ⟨h.1, fun i hi => wpOp_mono (fun a' w' h' => ⟨hS _ h'.1, wpAnyH_less hS n _ a' w' h'.2⟩) (h.2 i hi)⟩
/-- A call: its kind, its bytes, its number. -/
structure OpD where
  kd : Int
  nn : Int
  v : Value
  l : List Nat
/-- A call in memory. -/
structure OpAt (W : World) (g o : Nat) (x : OpD) : Prop where
  c0 : W.cell? ⟨g, o, none⟩ = some (.int .i64 x.kd)
  c1 : W.cell? ⟨g, o + 1, none⟩ = some x.v
  c2 : W.cell? ⟨g, o + 2, none⟩ = some (.int .i64 x.nn)
  sl : Sl W x.v x.l
  bk : -9223372036854775808 ≤ x.kd ∧ x.kd ≤ 9223372036854775807
  bn : -9223372036854775808 ≤ x.nn ∧ x.nn ≤ 9223372036854775807
structure Sc (W : World) (q : Option Addr) (n cap g off : Nat) (os : List OpD) : Prop where
  len : os.length = n
  fits : n ≤ cap
  max : cap ≤ 9223372036854775807
  ptr : 0 < n → q = some ⟨g, off, none⟩
  lt : 0 < n → g < W.heap.size
  row : ∀ j x, os[j]? = some x → OpAt W g (off + j * 3) x
  few : n ≤ 3518437208780
section
variable {H : Type} {enc : TypeId × Value → H} {w : World} {base : Nat} {spare : Nat → Bool} {held : Bool}
/-- A slice that came in is not longer than what a machine reaches. -/
theorem len_ofT {P : Program} {fuel : Nat} {t e : TypeId} {q : Option Addr} {len cap : Nat} {x : DataW H × List MemPlace} (ht : P.underlying t = some (.slice e)) (hf : DataW.trod enc P w base spare held fuel t [.slice q len cap] = some x) (hw : ∀ n ∈ x.1.weights P t, n ≤ reachBytes) : len * P.bytesOf e ≤ reachBytes := by
  rcases Deep.open_slice ht hf with ⟨hcs, _⟩ | ⟨a', len', cap', m, n', D', Pl, hcs, hb, hl, hm, hmm, rfl, hel⟩
  · simp at hcs
    obtain ⟨-, rfl, -⟩ := hcs
    simp
  · simp at hcs
    obtain ⟨rfl, rfl, rfl⟩ := hcs
    have h1 := hw ((len + (m - len)) * P.bytesOf e) (by simp [DataW.weights, ht])
    exact Nat.le_trans (Nat.mul_le_mul_right _ (by omega)) h1
end
theorem OpAt.keep {W W' : World} {g o : Nat} {x : OpD} (h : OpAt W g o x) (hg : g < W.heap.size) (hb : Below W.heap.size W W') : OpAt W' g o x :=
  ⟨keep_cell hb h.c0 hg, keep_cell hb h.c1 hg, keep_cell hb h.c2 hg, h.sl.keep hb, h.bk, h.bn⟩
end Go.Proofs.Ytalbiggmmmkclaa
namespace Go.Proofs.Ytalbiggmmmkclaa
open Go.ChangeShapes Go.WideShapes Go.ChangeAt Go.RowKit
set_option linter.unusedVariables false
set_option maxRecDepth 100000

section
variable {H : Type} {enc : TypeId × Value → H} {w : World} {base : Nat} {spare : Nat → Bool} {held : Bool} {P : Program}
theorem weights_mem_all {e : TypeId} : ∀ {l : List (DataW H)} {d : DataW H}, d ∈ l → ∀ n ∈ d.weights P e, n ∈ DataW.weightsAll P e l
  | d0 :: r, d, hd, n, hn => by
    simp only [DataW.weightsAll, List.mem_append]
    rcases List.mem_cons.1 hd with rfl | h
    · exact Or.inl hn
    · exact Or.inr (weights_mem_all h n hn)
/-- Bytes and how many they may be. -/
def SlZ (w : World) (v : Value) (l : List Nat) : Prop := Sl w v l ∧ Byt l ∧ l.length ≤ 200000000000000
def LsZ (w : World) (v : Value) (vs : List Value) (ls : List (List Nat)) : Prop := Ls w v vs ls ∧ (∀ l ∈ ls, Byt l ∧ l.length ≤ 200000000000000) ∧ ls.length ≤ 6000000000000
theorem bytesZ {fuel : Nat} {cs : List Value} {x : DataW H × List MemPlace} (hf : DataW.trod enc Try.prog w base spare held fuel 39 cs = some x) (hw : ∀ n ∈ x.1.weights Try.prog 39, n ≤ reachBytes) :
    ∃ q n cap l, cs = [.slice q n cap] ∧ SlZ w (.slice q n cap) l := by
  obtain ⟨q, g, off, len, cap, l, e, hl, hk, hm, hp, hg, hc⟩ := rows_of (n := 1) (D := 8) (fun _ => .u8) Try.underlying39 (by kernel_rfl) (by omega) (kinds_of (by kernel_rfl)) hf
  obtain ⟨m, hs, hb⟩ := bytes_rows hl hk hm hp hg hc
  subst e
  have z := len_ofT Try.underlying39 hf hw
  rw [show Try.prog.bytesOf 5 = 1 by kernel_rfl] at z
  unfold reachBytes at z
  have := hs.len
  exact ⟨q, len, cap, m, rfl, hs, hb, by omega⟩
theorem listsZ {fuel : Nat} {cs : List Value} {x : DataW H × List MemPlace} (hf : DataW.trod enc Try.prog w base spare held fuel 31 cs = some x) (hw : ∀ n ∈ x.1.weights Try.prog 31, n ≤ reachBytes) :
    ∃ q n cap vs ls, cs = [.slice q n cap] ∧ LsZ w (.slice q n cap) vs ls := by
  rcases Deep.open_slice1 Try.underlying31 (by kernel_rfl) hf with ⟨hcs, _⟩ | ⟨a', len, cap, m, n', V, D', Pl, hcs, hb, hl, hm, hmm, hx, hel⟩
  · exact ⟨none, 0, 0, [], [], hcs, ls_nil w, (fun l h => by simp at h), by simp⟩
  · subst hcs
    have z := len_ofT Try.underlying31 hf hw
    rw [show Try.prog.bytesOf 39 = 24 by kernel_rfl] at z
    unfold reachBytes at z
    have hle : len ≤ m := by rw [hmm]; split <;> omega
    have key : ∀ j, j < len → ∃ l, SlZ w (V j) l := fun j hj => by
      obtain ⟨_, h2⟩ := hel j (by omega)
      obtain ⟨q, n, c, l, e, hs⟩ := bytesZ h2 (fun n hn => hw n (by
        subst hx
        simp only [DataW.weights, Try.underlying31]
        refine List.mem_cons_of_mem _ (List.mem_append_left _ (weights_mem_all (List.mem_map.2 ⟨j, List.mem_range.2 hj, rfl⟩) n hn))))
      have e2 : V j = .slice q n c := by simpa using e
      rw [e2]
      exact ⟨l, hs⟩
    obtain ⟨L, hL⟩ := Deep.choose_lt key
    refine ⟨some a', len, cap, (List.range len).map V, (List.range len).map L, rfl, ⟨by simp, ⟨some a', cap, by simp, by simpa using hl, hm, fun h0 => ?_⟩, fun j x l hx hl => ?_⟩, fun l hlm => ?_, by simp; omega⟩
    · have h1 : 0 < len := by simpa using h0
      have hc0 := (hel 0 (by omega)).1
      have hs : a'.spot = none := by have := spot_of_cell hc0; simpa [Addr.add] using this
      refine ⟨a'.block, a'.off, ?_, ?_, fun j x hx => ?_⟩
      · obtain ⟨b, o, s⟩ := a'; cases hs; rfl
      · have := World.block_lt_of_cell? w _ hc0
        simpa [Addr.add] using this
      · have hj : j < len := by have := (List.getElem?_eq_some_iff.1 hx).1; simpa using this
        have hxj : x = V j := by simp [hj] at hx; exact hx.symm
        subst hxj
        have := (hel j (by omega)).1
        rwa [add_plain _ hs] at this
    · have hj : j < len := by have := (List.getElem?_eq_some_iff.1 hx).1; simpa using this
      have hxj : x = V j := by simp [hj] at hx; exact hx.symm
      have hlj : l = L j := by simp [hj] at hl; exact hl.symm
      subst hxj; subst hlj
      exact (hL j hj).1
    · obtain ⟨j, hj, rfl⟩ := List.mem_map.1 hlm
      have := hL j (by simpa using hj)
      exact ⟨this.2.1, this.2.2⟩
theorem open_bytesZ {r : Reach} {b0 : Nat} {v : Value} {d : DataW H} {p : List MemPlace} (hv : Value.okWide Try.prog w r b0 39 v) (h : DataW.Trod enc Try.prog w base spare held 39 v d p) (hz : ∀ n ∈ d.weights Try.prog 39, n ≤ reachBytes) : ∃ q n cap l, v = .slice q n cap ∧ SlZ w (.slice q n cap) l := by
  obtain ⟨a, len, cap, rfl⟩ := okWide_slice Try.underlying39 hv
  obtain ⟨fuel, hf⟩ := h
  obtain ⟨q, n, c, l, e, hs⟩ := bytesZ hf hz
  have e1 : (Value.slice a len cap) = .slice q n c := by simpa [Value.cells] using e
  exact ⟨q, n, c, l, e1, hs⟩
theorem open_listsZ {r : Reach} {b0 : Nat} {v : Value} {d : DataW H} {p : List MemPlace} (hv : Value.okWide Try.prog w r b0 31 v) (h : DataW.Trod enc Try.prog w base spare held 31 v d p) (hz : ∀ n ∈ d.weights Try.prog 31, n ≤ reachBytes) : ∃ q n cap vs ls, v = .slice q n cap ∧ LsZ w (.slice q n cap) vs ls := by
  obtain ⟨a, len, cap, rfl⟩ := okWide_slice Try.underlying31 hv
  obtain ⟨fuel, hf⟩ := h
  obtain ⟨q, n, c, vs, ls, e, hs⟩ := listsZ hf hz
  have e1 : (Value.slice a len cap) = .slice q n c := by simpa [Value.cells] using e
  exact ⟨q, n, c, vs, ls, e1, hs⟩
/-- A row of truth values. -/
structure Bs (W : World) (q : Option Addr) (n cap g off : Nat) (l : List Bool) : Prop where
  len : l.length = n
  fits : n ≤ cap
  max : cap ≤ 9223372036854775807
  ptr : 0 < n → q = some ⟨g, off, none⟩
  lt : 0 < n → g < W.heap.size
  row : ∀ j x, l[j]? = some x → W.cell? ⟨g, off + j, none⟩ = some (.bool x)
theorem open_bools {r : Reach} {b0 : Nat} {v : Value} {d : DataW H} {p : List MemPlace} (hv : Value.okWide Try.prog w r b0 71 v) (h : DataW.Trod enc Try.prog w base spare held 71 v d p) : ∃ q n cap g off l, v = .slice q n cap ∧ Bs w q n cap g off l := by
  obtain ⟨a, len, cap, rfl⟩ := okWide_slice Try.underlying71 hv
  obtain ⟨fuel, hf⟩ := h
  rcases Deep.open_slice1 Try.underlying71 (by kernel_rfl) hf with ⟨hcs, _⟩ | ⟨a', len', cap', m, n', V, D', Pl, hcs, hb, hl, hm, hmm, hx, hel⟩
  · have e1 : (Value.slice a len cap) = .slice none 0 0 := by simpa [Value.cells] using hcs
    exact ⟨none, 0, 0, 0, 0, [], e1, rfl, by omega, by omega, fun h => absurd h (by omega), fun h => absurd h (by omega), fun j c hc => by simp at hc⟩
  · have e1 : (Value.slice a len cap) = .slice (some a') len' cap' := by simpa [Value.cells] using hcs
    cases e1
    have hle : len ≤ m := by rw [hmm]; split <;> omega
    have key : ∀ j, j < len → ∃ l, V j = .bool l := fun j hj => by
      obtain ⟨_, h2⟩ := hel j (by omega)
      obtain ⟨b, e, -⟩ := DataW.trod_bool Try.underlying4 h2
      exact ⟨b, by simpa using e⟩
    obtain ⟨L, hL⟩ := Deep.choose_lt key
    have hspot : 0 < len → a'.spot = none := fun h0 => by
      have hc0 := (hel 0 (by omega)).1
      have := spot_of_cell hc0
      simpa [Addr.add] using this
    refine ⟨some a', len, cap, a'.block, a'.off, (List.range len).map L, rfl, by simp, hl, hm, fun h0 => ?_, fun h0 => ?_, fun j x hx => ?_⟩
    · have hs := hspot h0
      obtain ⟨b, o, s⟩ := a'; cases hs; rfl
    · have hc0 := (hel 0 (by omega)).1
      have := World.block_lt_of_cell? w _ hc0
      simpa [Addr.add] using this
    · have hj : j < len := by have := (List.getElem?_eq_some_iff.1 hx).1; simpa using this
      have hxj : x = L j := by simp [hj] at hx; exact hx.symm
      subst hxj
      have hs := hspot (by omega)
      have := (hel j (by omega)).1
      rwa [add_plain _ hs, hL j hj] at this
theorem dy_struct {r : Reach} {b0 n : Nat} {t : TypeId} {fs : Array Field} {v : Value} {d : DataW H} {p : List MemPlace} (hu : P.underlying t = some (.struct fs)) (hC : P.cellsOf t = n)
    (hv : Value.okWide P w r b0 t v) (h : DataW.Trod enc P w base spare held t v d p) :
    ∃ cs : Array Value, v = .agg cs ∧ cs.size = n ∧ ∃ m xs, d = .agg xs ∧ ∀ (i : Nat) (f : Field), fs[i]? = some f → ∃ x, xs[i]? = some x.1 ∧ DataW.trod enc P w base spare held m f.type ((cs.toList.drop f.offset).take (P.cellsOf f.type)) = some x := by
  obtain ⟨cs, rfl, hs⟩ : ∃ cs, v = .agg cs ∧ cs.size = P.cellsOf t := by
    simp only [Value.okWide, hu] at hv
    obtain ⟨cs, h1, h2, _⟩ := hv; exact ⟨cs, h1, h2⟩
  obtain ⟨fuel, hf⟩ := h
  obtain ⟨xs, m, _, he, _, hl, hx⟩ := DataW.trod_struct hu hf
  cases he
  refine ⟨cs, rfl, hs.trans hC, m, _, rfl, fun i f hi => ?_⟩
  have := hx i f hi
  have hlt : i < xs.length := by rw [hl]; exact (Array.getElem?_eq_some_iff.1 hi).1
  rw [List.getElem?_eq_getElem hlt] at this
  exact ⟨xs[i], by rw [List.getElem?_map, List.getElem?_eq_getElem hlt]; rfl, by simpa [Value.cells] using this⟩
/-- A number, a truth value that came in within a struct. -/
theorem i64_of {fuel : Nat} {e : Value} {x : DataW H × List MemPlace} (hf : DataW.trod enc Try.prog w base spare held fuel 3 [e] = some x) : ∃ a, e = .int .i64 a ∧ -9223372036854775808 ≤ a ∧ a ≤ 9223372036854775807 := by
  obtain ⟨a, e1, -, e2⟩ := DataW.trod_int Try.underlying3 hf
  exact ⟨a, by simpa using e1, bounds_i64 e2⟩
theorem bool_of {fuel : Nat} {e : Value} {x : DataW H × List MemPlace} (hf : DataW.trod enc Try.prog w base spare held fuel 4 [e] = some x) : ∃ a, e = .bool a := by
  obtain ⟨a, e1, -⟩ := DataW.trod_bool Try.underlying4 hf
  exact ⟨a, by simpa using e1⟩
abbrev I64 (a : Int) : Prop := -9223372036854775808 ≤ a ∧ a ≤ 9223372036854775807
/-- estuarylaw07.Cut. -/
theorem open_cut {r : Reach} {b0 : Nat} {v : Value} {d : DataW H} {p : List MemPlace} (hv : Value.okWide Try.prog w r b0 61 v) (h : DataW.Trod enc Try.prog w base spare held 61 v d p) (hz : ∀ n ∈ d.weights Try.prog 61, n ≤ reachBytes) :
    ∃ q n c vs ls q' n' c' vs' ls' rw arm fl kp, v = .agg #[.slice q n c, .slice q' n' c', .bool rw, .int .i64 arm, .int .i64 fl, .int .i64 kp] ∧ LsZ w (.slice q n c) vs ls ∧ LsZ w (.slice q' n' c') vs' ls' ∧ I64 arm ∧ I64 fl ∧ I64 kp := by
  obtain ⟨cs, rfl, hs, m, xs, rfl, hx⟩ := dy_struct (n := 6) Try.underlying61 (by kernel_rfl) hv h
  obtain ⟨e0, e1, e2, e3, e4, e5, rfl⟩ : ∃ e0 e1 e2 e3 e4 e5, cs = #[e0, e1, e2, e3, e4, e5] := by
    refine ⟨cs[0], cs[1], cs[2], cs[3], cs[4], cs[5], ?_⟩
    apply Array.ext
    · simpa using hs
    · intro i h1 h2
      have : i = 0 ∨ i = 1 ∨ i = 2 ∨ i = 3 ∨ i = 4 ∨ i = 5 := by omega
      rcases this with rfl | rfl | rfl | rfl | rfl | rfl <;> rfl
  obtain ⟨x0, hx0, f0⟩ := hx 0 _ rfl
  obtain ⟨x1, hx1, f1⟩ := hx 1 _ rfl
  obtain ⟨x2, hx2, f2⟩ := hx 2 _ rfl
  obtain ⟨x3, hx3, f3⟩ := hx 3 _ rfl
  obtain ⟨x4, hx4, f4⟩ := hx 4 _ rfl
  obtain ⟨x5, hx5, f5⟩ := hx 5 _ rfl
  obtain ⟨q, n, c, vs, ls, ee0, hs0⟩ := listsZ f0 (fun n hn => hz n (by simp only [DataW.weights, Try.underlying61]; exact DataW.weights_mem_each (j := 0) rfl (by simp [hx0]) n hn))
  obtain rfl : e0 = .slice q n c := by have h9 : [e0] = [Value.slice q n c] := ee0; simpa using h9
  obtain ⟨q', n', c', vs', ls', ee1, hs1⟩ := listsZ f1 (fun n hn => hz n (by simp only [DataW.weights, Try.underlying61]; exact DataW.weights_mem_each (j := 1) rfl (by simp [hx1]) n hn))
  obtain rfl : e1 = .slice q' n' c' := by have h9 : [e1] = [Value.slice q' n' c'] := ee1; simpa using h9
  obtain ⟨rw, rfl⟩ := bool_of (e := e2) f2
  obtain ⟨arm, rfl, ha⟩ := i64_of (e := e3) f3
  obtain ⟨fl, rfl, hfl⟩ := i64_of (e := e4) f4
  obtain ⟨kp, rfl, hkp⟩ := i64_of (e := e5) f5
  exact ⟨q, n, c, vs, ls, q', n', c', vs', ls', rw, arm, fl, kp, rfl, hs0, hs1, ha, hfl, hkp⟩
/-- estuarylaw07.Torn. -/
theorem open_torn {r : Reach} {b0 : Nat} {v : Value} {d : DataW H} {p : List MemPlace} (hv : Value.okWide Try.prog w r b0 65 v) (h : DataW.Trod enc Try.prog w base spare held 65 v d p) (hz : ∀ n ∈ d.weights Try.prog 65, n ≤ reachBytes) :
    ∃ q n c vs ls q' n' c' l arm kp, v = .agg #[.slice q n c, .slice q' n' c', .int .i64 arm, .int .i64 kp] ∧ LsZ w (.slice q n c) vs ls ∧ SlZ w (.slice q' n' c') l ∧ I64 arm ∧ I64 kp := by
  obtain ⟨cs, rfl, hs, m, xs, rfl, hx⟩ := dy_struct (n := 4) Try.underlying65 (by kernel_rfl) hv h
  obtain ⟨e0, e1, e2, e3, rfl⟩ : ∃ e0 e1 e2 e3, cs = #[e0, e1, e2, e3] := by
    refine ⟨cs[0], cs[1], cs[2], cs[3], ?_⟩
    apply Array.ext
    · simpa using hs
    · intro i h1 h2
      have : i = 0 ∨ i = 1 ∨ i = 2 ∨ i = 3 := by omega
      rcases this with rfl | rfl | rfl | rfl <;> rfl
  obtain ⟨x0, hx0, f0⟩ := hx 0 _ rfl
  obtain ⟨x1, hx1, f1⟩ := hx 1 _ rfl
  obtain ⟨x2, hx2, f2⟩ := hx 2 _ rfl
  obtain ⟨x3, hx3, f3⟩ := hx 3 _ rfl
  obtain ⟨q, n, c, vs, ls, ee0, hs0⟩ := listsZ f0 (fun n hn => hz n (by simp only [DataW.weights, Try.underlying65]; exact DataW.weights_mem_each (j := 0) rfl (by simp [hx0]) n hn))
  obtain rfl : e0 = .slice q n c := by have h9 : [e0] = [Value.slice q n c] := ee0; simpa using h9
  obtain ⟨q', n', c', l, ee1, hs1⟩ := bytesZ f1 (fun n hn => hz n (by simp only [DataW.weights, Try.underlying65]; exact DataW.weights_mem_each (j := 1) rfl (by simp [hx1]) n hn))
  obtain rfl : e1 = .slice q' n' c' := by have h9 : [e1] = [Value.slice q' n' c'] := ee1; simpa using h9
  obtain ⟨arm, rfl, ha⟩ := i64_of (e := e2) f2
  obtain ⟨kp, rfl, hkp⟩ := i64_of (e := e3) f3
  exact ⟨q, n, c, vs, ls, q', n', c', l, arm, kp, rfl, hs0, hs1, ha, hkp⟩
end
end Go.Proofs.Ytalbiggmmmkclaa
