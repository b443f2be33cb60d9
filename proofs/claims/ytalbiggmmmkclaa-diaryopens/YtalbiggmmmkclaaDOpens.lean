/-
  An opening that is cut, or refused, loses no row: estuarylaw07.DiaryOpens returns true for every input; no condition.
-/
import Derived.Test.YtalbiggmmmkclaaPk14
import Derived.ProofKit
import Derived.OpenShut
import Derived.ChangeOld
import Derived.Below
import Derived.Lib.SmallJoins
namespace Go.Proofs.Ytalbiggmmmkclaa.diaryOpens
open Go.ChangeShapes Go.WideShapes Go.ChangeAt Go.RowKit Go.Joins
set_option linter.unusedVariables false

/-- A tape with these bytes, all sure, whose next step does not answer. -/
structure Br (T : List Nat) (S : TS) : Prop where
  up : S.down = false
  l : S.l = T
  sure : S.sure = T.length
  steps : S.steps = 2
  num : stN S = 5 ∨ stN S = 6
set_option maxRecDepth 100000 in
set_option maxHeartbeats 8000000 in
theorem opens_any {W : World} (q : Option Addr) (n c : Nat) (vs : List Value) (ls : List (List Nat)) (q2 : Option Addr) (n2 c2 : Nat) (tn : List Nat) (arm kpn : Int)
    (hZ : LsZ W (.slice q n c) vs ls) (hZ2 : SlZ W (.slice q2 n2 c2) tn) (hra : I64 arm) (hrk : I64 kpn) :
    Calls Try.prog 34 #[.slice q n c, .slice q2 n2 c2, .int .i64 arm, .int .i64 kpn] W fun e w' => e = .returned (.bool true) ∧ Below W.heap.size W w' := by
  obtain ⟨L0, hz1, -⟩ := hZ
  obtain ⟨q', cap', g, off, ep, hc, hm, hp, hg, hr⟩ := L0.open
  have hlen := L0.len
  cases ep
  generalize hn : ls.length = n at *
  obtain ⟨S0, hB0, -⟩ := hZ2
  have hln2 := S0.len
  have n7n := ne70
  have n00 := ne00
  have e00 := eq00
  go_enter Try.func34, Try.ntmps34
  go_upto_region 3 with (go_at_call 9; refine (alive7_any _).mono ?_; rintro e V1 ⟨rfl, hb1⟩)
  by_cases hbad : 60 < n
  · have h1 : (60 : Int) < (n : Int) := by omega
    go_wp2_with fail
    go_ret
    exact ⟨rfl, hb1⟩
  by_cases hbad2 : 3000 < n2
  · have h1 : ¬ (60 : Int) < (n : Int) := by omega
    have h2 : (3000 : Int) < (n2 : Int) := by omega
    go_wp2_with fail
    go_ret
    exact ⟨rfl, hb1⟩
  have hb60i : ¬ (60 : Int) < (n : Int) := by omega
  have hb30i : ¬ (3000 : Int) < (n2 : Int) := by omega
  go_upto_region 6 with (go_at_call 11; refine (new_any _).mono ?_; rintro e V2 ⟨rfl, h2, b2⟩; have h2' := h2.less hb1.size; have bw2 := ab_trans hb1 b2)
  generalize V1.heap.size = b at *
  clear h2 b2 hb1
  go_upto_region 7 with fail
  have b3 : Below V2.heap.size V2 (V2.alloc (.cells #[] 5)) := (Below.refl _ _).alloc (Nat.le_refl _) _
  have O3 : Ow (V2.alloc (.cells #[] 5)) V2.heap.size (.slice (some ⟨V2.heap.size, 0, none⟩) 0 0) [] := own_newB V2 [] 0 rfl (by decide) _ (Nat.le_refl _)
  generalize V2.alloc (.cells #[] 5) = V3 at *
  go_wp2_with fail
  go_loopw [10, 36] (fun y i wr => ∃ k : Nat, k ≤ n ∧ i = .int .i64 (k : Int) ∧ Ow wr V2.heap.size y (frms (ls.take k)) ∧ (∀ r ∈ ls.take k, r.length ≤ 2000) ∧ Below V2.heap.size V2 wr) (fun _ i _ => n - (intOf i).toNat)
  case atStart => exact ⟨0, by omega, rfl, O3, by simp, b3⟩
  case round =>
    clear O3 b3
    obtain ⟨k, hk, rfl, HO, hall, hbv⟩ := hrel
    have hbw := ab_trans bw2 hbv
    have hsb := spN_bound (ls.take k) 2000 hall
    have hkl : (ls.take k).length = k := by rw [List.length_take]; omega
    rw [hkl] at hsb
    have hfl := frms_len (ls.take k)
    obtain ⟨qa, ca, ea⟩ := HO.form
    rw [hfl] at ea
    subst ea
    by_cases ck : k = n
    · subst ck
      rw [List.take_of_length_le (by omega)] at *
      have hrok : Rok ls := fun r hr' => ⟨by have := hall r hr'; omega, (hz1 r hr').1⟩
      have hT := h2'.keep hbv
      have ta : Stb b wr (.slice none 0 0) (.slice qa (spN ls) ca) (frms ls) := stb_own h2' HO
      have tt : Stb b wr (.slice none 0 0) (.slice q2 n2 c2) tn := stb_old hT hbw (Nat.le_refl _) S0
      clear hp hall hr hg hz1 h2' bw2 HO
      go_upto_region 16 with (go_at_call 36; refine (split_any _ tn _ tt.sl hB0 (by omega)).mono ?_; rintro e V4 ⟨vm, vsm, rfl, Lm, b4⟩)
      obtain ⟨qm, cm, em⟩ : ∃ q c, vm = .slice q (spt tn).length c := by
        obtain ⟨q, c, e, -⟩ := Lm.ls.row
        rw [Lm.ls.len] at e
        exact ⟨q, c, e⟩
      subst em
      by_cases hto : spt tn = []
      · have hsl0 : (spt tn).length = 0 := by rw [hto]; rfl
        rw [hsl0]
        have hT4 := hT.keep b4
        have ta4 := ta.keep b4
        have tt4 := tt.keep b4
        have bw4 := ab_trans hbw b4
        clear Lm hT ta tt hbw b4 hsl0 hbv
        have HFl : Hid ([frms ls, tn].flatten = frms ls ++ tn) := by show _ = _; simp
        go_wp2_with (refine bs_ls rfl rfl [_, _] [frms ls, tn] (by simp only [List.map_toArray, List.map_cons, List.map_nil]; rfl) (bsl2 _ _ _ _ _ _ _) rfl (by decide) rfl (each2 ta4.sl tt4.sl) ?_; intro V5 ls5 b5 k5; have h5 := hT4.keep b5; have st5 := stl_new (n := 2) [_, _] [frms ls, tn] hT4 b5 k5 rfl (by decide) rfl (eachS2 ta4 tt4))
        refine (append_up _ _ _ _ _ _ _ _ _ _ h5 (by omega) st5 (by rw [HFl.out, List.length_append, hfl]; simp; omega)).mono ?_
        rw [HFl.out]
        rintro e V6 ⟨rfl, v6, h6, m6⟩
        have bw6 := (ab_trans bw4 b5).trans (h5.below m6)
        clear m6 h5 st5 k5 ls5 b5 ta4 tt4 hT4 bw4
        go_wp2_with fail
        refine (sync_up _ _ _ _ _ _ _ h6 (by omega)).mono ?_
        rintro e V7 ⟨rfl, h7, m7⟩
        have bw7 := bw6.trans (h6.below m7)
        clear m7 h6 bw6
        have hTb : Byt (frms ls ++ tn) := (frms_byt hrok.byt).append hB0
        have HSP : Hid (spt (frms ls ++ tn) = ls) := by show _ = _; rw [spt_rows _ hrok.len, hto, List.append_nil]
        have hTl : (frms ls ++ tn).length = spN ls + n2 := by rw [List.length_append, hfl, hln2.1]
        have h7' : Tp V7 W.heap.size b v6 (up (frms ls ++ tn) (frms ls ++ tn).length 2) := h7
        clear h7 HFl
        generalize frms ls ++ tn = T at *
        go_upto_if 83 with fail
        go_cut [] from 81 to 87 (fun wc => ∃ S1, Tp wc W.heap.size b v6 S1 ∧ Br T S1 ∧ Below W.heap.size W wc)
        case first =>
          cases hpar : (arm.tmod 2 == 0) with
          | true =>
            go_wp2_with (go_at_call 23; refine (arm_ok _ _ _ _ 0 _ h7' (by omega)).mono ?_; rintro e V9 ⟨rfl, h9, m9⟩)
            go_meet
            case rel => exact ⟨_, h9, ⟨rfl, rfl, rfl, rfl, .inl (by simp [stN, duF])⟩, bw7.trans (h7'.below m9)⟩
          | false =>
            go_wp2_with (go_at_call 24; refine (fail_ok _ _ _ _ 0 _ h7' (by omega)).mono ?_; rintro e V9 ⟨rfl, h9, m9⟩)
            go_meet
            case rel => exact ⟨_, h9, ⟨rfl, rfl, rfl, rfl, .inr (by simp [stN, duF])⟩, bw7.trans (h7'.below m9)⟩
        case rest =>
        obtain ⟨S1, h8, hbr, bw8'⟩ := hcut
        clear h7' bw7
        have hbl := hbr.l
        have hst1 := hbr.steps
        have hby1 : Byt S1.l := by rw [hbl]; exact hTb
        have e5n := eq5n
        have e6n := eq6n
        by_cases h0 : n2 = 0
        · have hlen0 : ¬ spN (spt S1.l) < S1.l.length := by rw [hbl, HSP.out, hTl]; omega
          have HN : opN S1 = 0 := by unfold opN; rw [if_neg (by rw [hbr.up]; simp), if_neg hlen0]
          have HS : opS S1 = S1 := by unfold opS; rw [if_neg (by rw [hbr.up]; simp), if_neg hlen0]
          subst h0
          go_upto_region 22 with (go_at_call 12; refine (dopen_any _ _ _ _ _ h8 (by omega) hby1).mono ?_; rw [HS]; rintro e V10 ⟨⟨-, hop⟩, v8, hT8, m8⟩; obtain ⟨d8, vl8, vs8, rfl, -, -, -⟩ := hop HN)
          have bw8 := bw8'.trans (h8.below m8)
          obtain ⟨S2, rfl⟩ : ∃ S2, S2 = S1 := ⟨S1, rfl⟩
          have hl2 : S2.l = T := hbl
          have hs2 : S2.sure = T.length := hbr.sure
          clear m8 h8 bw8' hop
          go_upto_region 24 with fail
          have hS2 : (crS S2 kpn).l = T := by rw [cr_full _ (by rw [hl2, hs2]; exact Nat.le_refl _), hl2]
          have hcb : Byt (crS S2 kpn).l := by rw [hS2]; exact hTb
          have hsp2 : spt (crS S2 kpn).l = ls := by rw [hS2]; exact HSP.out
          have hop2 := opS_cr S2 kpn hcb (by rw [hS2]; omega)
          rw [hsp2] at hop2
          go_upto_region 26 with (first
            | (go_at_call 25; refine (crash_any _ _ _ _ kpn _ hT8 hrk).mono ?_; rintro e V9 ⟨rfl, v9, h9, m9⟩)
            | (go_at_call 12; refine (dopen_any _ _ _ _ _ h9 (by show S2.steps < _; omega) hcb).mono ?_; rintro e V10 ⟨⟨-, hop⟩, v10, h10, m10⟩; obtain ⟨d10, vl, vs10, rfl, -, hD10, L10⟩ := hop (op_cr _ _)))
          rw [hsp2] at hD10 L10
          rw [hn] at hD10
          have bw10 := (bw8.trans (hT8.below m9)).trans (h9.below m10)
          clear m10 m9 h9 hT8 bw8 hop
          go_wp2_with (first
            | (go_at_call 20; refine (dtexts_any _ vs ls _ (L0.keep bw10) (by omega)).mono ?_; rintro e V11 ⟨v11, rfl, T11, b11⟩; have bw11 := ab_trans bw10 b11)
            | (go_at_call 27; refine (dsame_yes _ _ vs10 ls _ (L10.ls.keep b11) T11.txs hrok.byt).mono ?_; rintro e V12 ⟨rfl, b12⟩; have h12 := (h10.keep b11).keep b12; have hD12 := (hD10.keep b11).keep b12; have bw12 := ab_trans bw11 b12)
            | (go_at_call 29; refine (dlen_any _ _ _ _ _ hD12).mono ?_; rintro e X ⟨rfl, hX⟩; subst X)
            | (go_at_call 30; refine (dbytes_any _ _ _ _ _ hD12).mono ?_; rintro e X ⟨rfl, hX⟩; subst X)
            | (go_at_call 32; refine (tread_any _ _ _ _ _ h12).mono ?_; rintro e V13 ⟨v13, rfl, O13, b13⟩; obtain ⟨q13, c13, e13⟩ := O13.form; rw [hop2, hfl] at e13; subst e13))
          go_ret
          exact ⟨rfl, ab_trans bw12 b13⟩
        · have hlen0 : spN (spt S1.l) < S1.l.length := by rw [hbl, HSP.out, hTl]; omega
          have hgt : (0 : Int) < (n2 : Int) := by omega
          have hgn : 0 < n2 := by omega
          have hne0 : ((n2 : Int) == 0) = false := by simp; omega
          have HN : opN S1 = stN S1 := by unfold opN; rw [if_neg (by rw [hbr.up]; simp), if_pos hlen0]
          have HNZ : opN S1 ≠ 0 := by rw [HN]; rcases hbr.num with h | h <;> omega
          have HS : opS S1 = stS S1 := by
            unfold opS
            rw [if_neg (by rw [hbr.up]; simp), if_pos hlen0]
            unfold rpS
            rw [if_pos (by rw [List.length_take, hbl, hTl]; omega), if_neg (by rw [← HN]; exact HNZ)]
          go_upto_region 22 with (go_at_call 12; refine (dopen_any _ _ _ _ _ h8 (by omega) hby1).mono ?_; rw [HS]; rintro e V10 ⟨⟨hop, -⟩, v8, hT8, m8⟩; obtain rfl := hop HNZ; rw [HN])
          have bw8 := bw8'.trans (h8.below m8)
          have hl2 : (stS S1).l = T := (stS_l S1).1.trans hbl
          have hs2 : (stS S1).sure = T.length := (stS_l S1).2.trans hbr.sure
          have hst2 := steps_st S1
          rcases hbr.num with h5 | h5
          · rw [h5]
            clear m8 h8 bw8' hop HS
            generalize stS S1 = S2 at *
            go_upto_region 24 with fail
            have hS2 : (crS S2 kpn).l = T := by rw [cr_full _ (by rw [hl2, hs2]; exact Nat.le_refl _), hl2]
            have hcb : Byt (crS S2 kpn).l := by rw [hS2]; exact hTb
            have hsp2 : spt (crS S2 kpn).l = ls := by rw [hS2]; exact HSP.out
            have hop2 := opS_cr S2 kpn hcb (by rw [hS2]; omega)
            rw [hsp2] at hop2
            go_upto_region 26 with (first
              | (go_at_call 25; refine (crash_any _ _ _ _ kpn _ hT8 hrk).mono ?_; rintro e V9 ⟨rfl, v9, h9, m9⟩)
              | (go_at_call 12; refine (dopen_any _ _ _ _ _ h9 (by show S2.steps < _; omega) hcb).mono ?_; rintro e V10 ⟨⟨-, hop⟩, v10, h10, m10⟩; obtain ⟨d10, vl, vs10, rfl, -, hD10, L10⟩ := hop (op_cr _ _)))
            rw [hsp2] at hD10 L10
            rw [hn] at hD10
            have bw10 := (bw8.trans (hT8.below m9)).trans (h9.below m10)
            clear m10 m9 h9 hT8 bw8 hop
            go_wp2_with (first
              | (go_at_call 20; refine (dtexts_any _ vs ls _ (L0.keep bw10) (by omega)).mono ?_; rintro e V11 ⟨v11, rfl, T11, b11⟩; have bw11 := ab_trans bw10 b11)
              | (go_at_call 27; refine (dsame_yes _ _ vs10 ls _ (L10.ls.keep b11) T11.txs hrok.byt).mono ?_; rintro e V12 ⟨rfl, b12⟩; have h12 := (h10.keep b11).keep b12; have hD12 := (hD10.keep b11).keep b12; have bw12 := ab_trans bw11 b12)
              | (go_at_call 29; refine (dlen_any _ _ _ _ _ hD12).mono ?_; rintro e X ⟨rfl, hX⟩; subst X)
              | (go_at_call 30; refine (dbytes_any _ _ _ _ _ hD12).mono ?_; rintro e X ⟨rfl, hX⟩; subst X)
              | (go_at_call 32; refine (tread_any _ _ _ _ _ h12).mono ?_; rintro e V13 ⟨v13, rfl, O13, b13⟩; obtain ⟨q13, c13, e13⟩ := O13.form; rw [hop2, hfl] at e13; subst e13))
            go_ret
            exact ⟨rfl, ab_trans bw12 b13⟩
          · rw [h5]
            clear m8 h8 bw8' hop HS
            generalize stS S1 = S2 at *
            go_upto_region 24 with fail
            have hS2 : (crS S2 kpn).l = T := by rw [cr_full _ (by rw [hl2, hs2]; exact Nat.le_refl _), hl2]
            have hcb : Byt (crS S2 kpn).l := by rw [hS2]; exact hTb
            have hsp2 : spt (crS S2 kpn).l = ls := by rw [hS2]; exact HSP.out
            have hop2 := opS_cr S2 kpn hcb (by rw [hS2]; omega)
            rw [hsp2] at hop2
            go_upto_region 26 with (first
              | (go_at_call 25; refine (crash_any _ _ _ _ kpn _ hT8 hrk).mono ?_; rintro e V9 ⟨rfl, v9, h9, m9⟩)
              | (go_at_call 12; refine (dopen_any _ _ _ _ _ h9 (by show S2.steps < _; omega) hcb).mono ?_; rintro e V10 ⟨⟨-, hop⟩, v10, h10, m10⟩; obtain ⟨d10, vl, vs10, rfl, -, hD10, L10⟩ := hop (op_cr _ _)))
            rw [hsp2] at hD10 L10
            rw [hn] at hD10
            have bw10 := (bw8.trans (hT8.below m9)).trans (h9.below m10)
            clear m10 m9 h9 hT8 bw8 hop
            go_wp2_with (first
              | (go_at_call 20; refine (dtexts_any _ vs ls _ (L0.keep bw10) (by omega)).mono ?_; rintro e V11 ⟨v11, rfl, T11, b11⟩; have bw11 := ab_trans bw10 b11)
              | (go_at_call 27; refine (dsame_yes _ _ vs10 ls _ (L10.ls.keep b11) T11.txs hrok.byt).mono ?_; rintro e V12 ⟨rfl, b12⟩; have h12 := (h10.keep b11).keep b12; have hD12 := (hD10.keep b11).keep b12; have bw12 := ab_trans bw11 b12)
              | (go_at_call 29; refine (dlen_any _ _ _ _ _ hD12).mono ?_; rintro e X ⟨rfl, hX⟩; subst X)
              | (go_at_call 30; refine (dbytes_any _ _ _ _ _ hD12).mono ?_; rintro e X ⟨rfl, hX⟩; subst X)
              | (go_at_call 32; refine (tread_any _ _ _ _ _ h12).mono ?_; rintro e V13 ⟨v13, rfl, O13, b13⟩; obtain ⟨q13, c13, e13⟩ := O13.form; rw [hop2, hfl] at e13; subst e13))
            go_ret
            exact ⟨rfl, ab_trans bw12 b13⟩
      · have hgt : (0 : Int) < ((spt tn).length : Int) := by
          have : (spt tn).length ≠ 0 := fun h => hto (List.eq_nil_of_length_eq_zero h)
          omega
        have hgn : 0 < (spt tn).length := by omega
        generalize (spt tn).length = sl at *
        go_wp2_with fail
        go_ret
        exact ⟨rfl, ab_trans hbw b4⟩
    · obtain ⟨y, hy⟩ : ∃ y, vs[k]? = some y := ⟨vs[k], List.getElem?_eq_getElem (by omega)⟩
      obtain ⟨l, hl⟩ : ∃ l, ls[k]? = some l := ⟨ls[k], List.getElem?_eq_getElem (by omega)⟩
      obtain rfl := hp (by omega)
      have dy := keep_cell hbw (hr k y hy) (hg (by omega))
      have sy := (L0.each k y l hy hl).keep hbw
      have hbl := (hz1 l (List.mem_of_getElem? hl)).1
      have hl14 := (hz1 l (List.mem_of_getElem? hl)).2
      obtain ⟨qy, ny, cy, ey⟩ := sy.slice
      subst ey
      have hly := sy.len
      have hki : (k : Int) < (n : Int) := by omega
      have hkn : k < n := by omega
      have HT1 : Hid (spN (ls.take (k + 1)) = spN (ls.take k) + (8 + l.length)) := spN_next ls k l hl
      have HT2 : Hid (frms (ls.take (k + 1)) = frms (ls.take k) ++ frm l) := frms_next ls k l hl
      have HT3 : Hid (l.length ≤ 2000 → ∀ r ∈ ls.take (k + 1), r.length ≤ 2000) := fun h => all_next ls k l hl hall h
      have HLf : Hid ((frm l).length = 8 + ny) := by show _ = _; rw [frm_len, hly.1]
      have hlyN : Hid (l.length = ny) := hly.1
      clear hp hy hl hall hz1 hr hg hly
      by_cases hbig : 16376 < ny
      · go_wp2_with (first
          | (refine bs_ls rfl rfl [_] [l] (by simp only [List.map_toArray, List.map_cons, List.map_nil]; rfl) (bsl1 _ _ _ _) rfl (by decide) rfl (each1 sy) ?_; intro X2 ls2 b2 k2)
          | (go_at_call 40; refine (wrap_noL _ _ _ _ ls2 (by intro l' hl'; simp at hl'; subst hl'; exact hl14) (by rw [flat_one, hlyN.out]; omega)).mono ?_; rintro e X3 ⟨rfl, b3⟩))
        go_ret
        exact ⟨rfl, ab_trans (ab_trans hbw b2) b3⟩
      · by_cases hlong : 2000 < ny
        · have hli : (2000 : Int) < (ny : Int) := by omega
          go_wp2_with (first
            | (refine bs_ls rfl rfl [_] [l] (by simp only [List.map_toArray, List.map_cons, List.map_nil]; rfl) (bsl1 _ _ _ _) rfl (by decide) rfl (each1 sy) ?_; intro X2 ls2 b2 k2)
            | (go_at_call 40; refine (wrap_ok _ _ _ _ ls2 (by intro l' hl'; simp at hl'; subst hl'; exact hbl) (by rw [flat_one, hlyN.out]; omega)).mono ?_; rw [flat_one]; rintro e X3 ⟨v3, rfl, O3, -, b3⟩; obtain ⟨q3, c3, e3⟩ := O3.form; rw [HLf.out] at e3; subst e3))
          go_ret
          exact ⟨rfl, ab_trans (ab_trans hbw b2) b3⟩
        · have hli : ¬ (2000 : Int) < (ny : Int) := by omega
          have HX := HT3.out (by rw [hlyN.out]; omega)
          have HO' : wr.ownsRow V2.heap.size 5 1 (.slice qa (spN (ls.take k)) ca) (spN (ls.take k)) (bys (frms (ls.take k))) := by have := HO; unfold Ow at this; rwa [hfl] at this
          generalize hsk : spN (ls.take k) = sk at *
          clear HO
          go_wp2_with (first
            | (refine bs_ls rfl rfl [_] [l] (by simp only [List.map_toArray, List.map_cons, List.map_nil]; rfl) (bsl1 _ _ _ _) rfl (by decide) rfl (each1 sy) ?_; intro X2 ls2 b2 k2)
            | (go_at_call 40; refine (wrap_ok _ _ _ _ ls2 (by intro l' hl'; simp at hl'; subst hl'; exact hbl) (by rw [flat_one, hlyN.out]; omega)).mono ?_; rw [flat_one]; rintro e X3 ⟨v3, rfl, O3, -, b3⟩; obtain ⟨q3, c3, e3⟩ := O3.form; rw [HLf.out] at e3; subst e3; have hb3 := ab_trans (ab_trans hbv b2) b3; have HO3 := own_keep (own_keep HO' b2) b3)
            | (at_builtin; refine app_t V2.heap.size rfl rfl rfl HO3 rfl O3.sl HLf.out (by omega) hb3.size ?_; intro v5 X5 hown5 hgr5 hat5))
          have hb5 := hb3.trans (below_own HO3 hb3.size hgr5)
          exact ⟨⟨k + 1, by omega, rfl, by rw [HT2.out]; exact ow_of hown5, HX, hb5⟩, by simp only [intOf]; omega⟩
set_option maxRecDepth 100000 in
set_option maxHeartbeats 1000000 in
theorem walk {W : World} (q : Option Addr) (n c : Nat) (vs : List Value) (ls : List (List Nat)) (q2 : Option Addr) (n2 c2 : Nat) (tn : List Nat) (arm kpn : Int)
    (hZ : LsZ W (.slice q n c) vs ls) (hZ2 : SlZ W (.slice q2 n2 c2) tn) (hra : I64 arm) (hrk : I64 kpn) :
    Calls Try.prog 5 #[.agg #[.slice q n c, .slice q2 n2 c2, .int .i64 arm, .int .i64 kpn]] W fun e w' => e = .returned (.bool true) ∧ Below W.heap.size W w' := by
  go_enter Try.func5, Try.ntmps5
  have bA : Below W.heap.size W (W.alloc (.cells #[.slice q n c, .slice q2 n2 c2, .int .i64 arm, .int .i64 kpn] 65)) := (Below.refl _ _).alloc (Nat.le_refl _) _
  have hC : Blk (W.alloc (.cells #[.slice q n c, .slice q2 n2 c2, .int .i64 arm, .int .i64 kpn] 65)) W.heap.size #[.slice q n c, .slice q2 n2 c2, .int .i64 arm, .int .i64 kpn] 65 := Blk.new _ _ _
  go_upto_region 1 with fail
  generalize W.alloc (.cells #[.slice q n c, .slice q2 n2 c2, .int .i64 arm, .int .i64 kpn] 65) = A at *
  have C0 := hC.at (i := 0) rfl
  have C1 := hC.at (i := 1) rfl
  have C2 := hC.at (i := 2) rfl
  have C3 := hC.at (i := 3) rfl
  go_wp2_with (go_at_call 34; refine (opens_any (W := A) q n c vs ls q2 n2 c2 tn arm kpn ⟨hZ.1.keep bA, hZ.2⟩ ⟨hZ2.1.keep bA, hZ2.2⟩ hra hrk).mono ?_; rintro e V1 ⟨rfl, hb1⟩)
  go_ret
  exact ⟨rfl, ab_trans bA hb1⟩

theorem own : ownKnob Try.prog.godebug = none := by kernel_rfl
theorem laidOut : laidOutB Try.prog = true := by kernel_rfl

set_option maxRecDepth 100000 in
theorem lifted (os : Os) (started : os.Started) (H : Type) (enc : TypeId × Value → H) :
    ReturnsInHanded {} Try.checked os 5 .any (Rows.diaryOpensSpec.pre6 enc Try.prog Try.f5 Rows.diaryOpensRow.domain false) (Rows.diaryOpensSpec.post enc Try.prog Try.f5 false true false false) := by
  refine returnsInHanded_of_change_sized (C := Try.checked) own started (by kernel_rfl) Try.func5
    (ChangeSpec.witness6 (enc := enc) (C := Try.checked) false ⟨#[], #[.agg #[.slice none 0 0, .slice none 0 0, .int .i64 0, .int .i64 0]], []⟩ 8 (by kernel_rfl) (by kernel_rfl) (by kernel_rfl) (by kernel_rfl)) ?_
  intro W base args ds gs before hval0 hW hcnd hsz _
  have hval : ∀ (j : Nat) t v, Try.f5.params[j]? = some t → args[j]? = some v → Value.okWide Try.prog W .any base t v := hval0
  have hW' := hW
  obtain ⟨p, q, hA0, hV, rfl, hfz, hnd⟩ := hW
  have hA : DataW.TrodAll enc Try.prog W 0 (fun _ => true) true Try.f5.params.toList args.toList ds p := hA0
  rw [Try.params5] at hA hval
  obtain ⟨v0, vs0, d0, ds0, p0, q0, hargs, rfl, rfl, h0, r0⟩ := trodAll_cons hA
  obtain ⟨rfl, rfl, rfl⟩ := trodAll_nil r0
  obtain rfl : args = #[v0] := by cases args; simp_all
  obtain ⟨rfl, rfl⟩ := trodVars_none hV
  have k0 := h0
  have lt0 : ∀ x ∈ p0, x.block < W.heap.size := by obtain ⟨m, hm⟩ := k0; exact DataW.trod_lt m _ _ _ hm
  obtain ⟨q_, n_, c_, vs_, ls_, q'_, n'_, c'_, l_, arm_, kp_, rfl, Z1_, Z2_, Z3_, Z4_⟩ := open_torn (hval 0 65 v0 rfl rfl) h0 (fun n hn => by simpa using List.all_eq_true.1 hsz n (DataW.weights_mem_each (j := 0) (t := 65) (by kernel_rfl) rfl n hn))
  clear hA0 hval0
  refine (walk q_ n_ c_ vs_ ls_ q'_ n'_ c'_ l_ arm_ kp_ Z1_ Z2_ Z3_ Z4_).mono fun e W' ⟨he, bel⟩ => ?_
  subst he
  exact ⟨_, rfl, _, _, _, [], _, [], hW', trodAll_mk1 (shut_bool Try.underlying4 _), (trodAll_cons_mk (Below.trod laidOut (by kernel_rfl) (of_decide_eq_true (by kernel_rfl)) k0 bel lt0) trodAll_mk0), rfl, bel.frame _, fun h => by cases h⟩

theorem over : Rows.diaryOpensRow.holds Try.pinned (OpenSpec.ofChange Rows.diaryOpensSpec) :=
  OpenClaim.holds_of_wide 5 Try.f5 rfl rfl rfl rfl rfl rfl rfl ⟨rfl, rfl, rfl, rfl, rfl⟩ rfl rfl rfl rfl rfl (by kernel_rfl) Try.func5 (by kernel_rfl)
    (of_decide_eq_true (by kernel_rfl)) (by unfold Func.isWrapper; first | (rw [if_pos (by decide +kernel)]; kernel_rfl) | (rw [if_neg (by decide +kernel)]; exact ⟨rfl, rfl⟩))
    (fun os started H enc _ => lifted os started H enc)

theorem proved : Rows.DiaryOpensSaid := over
end Go.Proofs.Ytalbiggmmmkclaa.diaryOpens
namespace Go.Proofs.Ytalbiggmmmkclaa
theorem diaryOpens_holds : Rows.DiaryOpensSaid := diaryOpens.proved
#print axioms diaryOpens_holds
end Go.Proofs.Ytalbiggmmmkclaa
