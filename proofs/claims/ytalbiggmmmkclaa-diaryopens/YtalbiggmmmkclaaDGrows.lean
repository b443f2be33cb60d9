/-
  Rows come back in the order in which they were added, through openings too: estuarylaw07.DiaryGrows returns true for every input; no condition.
-/
import Derived.Test.YtalbiggmmmkclaaDyS
import Derived.ProofKit
import Derived.OpenShut
import Derived.ChangeOld
import Derived.Below
import Derived.Lib.SmallJoins
namespace Go.Proofs.Ytalbiggmmmkclaa
theorem spN_bound (rs : List (List Nat)) (M : Nat) (h : ∀ r ∈ rs, r.length ≤ M) : spN rs ≤ (8 + M) * rs.length := by
  induction rs with
  | nil => simp [spN]
  | cons r t ih =>
    have h1 := ih (fun x hx => h x (List.mem_cons_of_mem _ hx))
    have h2 := h r (List.mem_cons_self ..)
    simp only [spN, List.map_cons, List.sum_cons, List.length_cons] at h1 ⊢
    rw [Nat.mul_add]
    omega
end Go.Proofs.Ytalbiggmmmkclaa
namespace Go.Proofs.Ytalbiggmmmkclaa.diaryGrows
open Go.ChangeShapes Go.WideShapes Go.ChangeAt Go.RowKit Go.Joins
set_option linter.unusedVariables false

set_option maxRecDepth 100000 in
set_option maxHeartbeats 4000000 in
theorem walk {W : World} (q : Option Addr) (n c : Nat) (vs : List Value) (ls : List (List Nat)) (hZ : LsZ W (.slice q n c) vs ls) (qo : Option Addr) (no co go oo : Nat) (os : List Bool) (hO : Bs W qo no co go oo os) :
    Calls Try.prog 8 #[.slice q n c, .slice qo no co] W fun e w' => e = .returned (.bool true) ∧ Below W.heap.size W w' := by
  obtain ⟨L0, hz1, hz2⟩ := hZ
  obtain ⟨q', cap', g, off, ep, hc, hm, hp, hg, hr⟩ := L0.open
  have hlen := L0.len
  have hnl : ls.length = n := by cases ep; rfl
  cases ep
  clear hnl
  have n00 := ne00
  have e00 := eq00
  generalize hn : ls.length = n at *
  go_enter Try.func8, Try.ntmps8
  go_upto_region 3 with (go_at_call 9; refine (alive7_any _).mono ?_; rintro e V1 ⟨rfl, hb1⟩)
  by_cases hbig : 100 < n
  · have hbi : (100 : Int) < (n : Int) := by omega
    go_wp2_with fail
    go_ret
    exact ⟨rfl, hb1⟩
  · have hbi : ¬ (100 : Int) < (n : Int) := by omega
    go_wp2_with (first
      | (go_at_call 11; refine (new_any _).mono ?_; rintro e V2 ⟨rfl, h2, b2⟩; have h2' := h2.less hb1.size; have bw2 := ab_trans hb1 b2)
      | (go_at_call 12; refine (dopen_up _ _ _ [] 0 0 _ h2' (by omega) Rok.nil).mono ?_; rintro e V3 ⟨d3, q3, c3, vs3, v3, rfl, hd3, hD3, -, h3, m3⟩; have bw3 := bw2.trans (h2'.below m3)))
    have hWd : W.heap.size ≤ d3 := Nat.le_trans (Nat.le_trans hb1.size b2.size) hd3
    generalize V1.heap.size = b at *
    clear m3 h2 h2' bw2 b2 hd3
    go_loopw [6, 9, 31] (fun dv nv i wr => ∃ (k d : Nat) (v : Value), k ≤ n ∧ i = .int .i64 (k : Int) ∧ dv = tptr d ∧ nv = .int .i64 ((spN (ls.take k) : Nat) : Int) ∧ Tp wr W.heap.size b v (up (frms (ls.take k)) (spN (ls.take k)) (2 * k)) ∧ Blk wr d (dcs b k (spN (ls.take k))) 80 ∧ W.heap.size ≤ d ∧ (∀ r ∈ ls.take k, r.length ≤ 2000) ∧ Below W.heap.size W wr) (fun _ _ i _ => n - (intOf i).toNat)
    case atStart => exact ⟨0, d3, v3, by omega, rfl, rfl, rfl, h3, hD3, hWd, by simp, bw3⟩
    case round =>
      clear h3 hD3 bw3 hWd
      obtain ⟨k, d, v, hk, rfl, rfl, rfl, hT, hD, hWd, hall, hbw⟩ := hrel
      have hsb := spN_bound (ls.take k) 2000 hall
      have hkl : (ls.take k).length = k := by rw [List.length_take]; omega
      rw [hkl] at hsb
      have hfl := frms_len (ls.take k)
      by_cases ck : k = n
      · subst ck
        rw [List.take_of_length_le (by omega)] at *
        have hrok : Rok ls := fun r hr' => ⟨by have := hall r hr'; omega, (hz1 r hr').1⟩
        clear hr hp hg hall hO
        go_upto_region 25 with (go_at_call 12; refine (dopen_up _ _ _ ls _ _ _ hT (by omega) hrok).mono ?_; rintro e V4 ⟨d4, q4, c4, vs4, v4, rfl, hd4, hD4, L4, h4, m4⟩)
        have hD4' := hD.mv hT m4 (by decide) (by decide)
        have bw4 := hbw.trans (hT.below m4)
        rw [hkl] at L4
        clear hD hT m4 hbw hD4 hd4
        go_wp2_with (first
          | (go_at_call 20; refine (dtexts_any _ vs ls _ (L0.keep bw4) (by omega)).mono ?_; rintro e V5 ⟨v5, rfl, T5, b5⟩; obtain ⟨q5, c5, e5⟩ := T5.txs.slice; rw [hkl] at e5; subst e5; have bw5 := ab_trans bw4 b5)
          | (go_at_call 27; refine (dsame_yes _ _ vs4 ls _ (L4.ls.keep b5) T5.txs hrok.byt).mono ?_; rintro e V6 ⟨rfl, b6⟩; have h6 := (h4.keep b5).keep b6; have hD6 := (hD4'.keep b5).keep b6; have bw6 := ab_trans bw5 b6)
          | (go_at_call 29; refine (dlen_any _ _ _ _ _ hD6).mono ?_; rintro e X ⟨rfl, hX⟩; subst X)
          | (go_at_call 30; refine (dbytes_any _ _ _ _ _ hD6).mono ?_; rintro e X ⟨rfl, hX⟩; subst X)
          | (go_at_call 32; refine (tread_any _ _ _ _ _ h6).mono ?_; rintro e V7 ⟨v7, rfl, O7, b7⟩; obtain ⟨q7, c7, e7⟩ := O7.form; rw [show (up (frms ls) (spN ls) (2 * k)).l.length = spN ls from hfl] at e7; subst e7))
        go_ret
        exact ⟨rfl, ab_trans bw6 b7⟩
      · obtain ⟨y, hy⟩ : ∃ y, vs[k]? = some y := ⟨vs[k], List.getElem?_eq_getElem (by omega)⟩
        obtain ⟨l, hl⟩ : ∃ l, ls[k]? = some l := ⟨ls[k], List.getElem?_eq_getElem (by omega)⟩
        obtain rfl := hp (by omega)
        have dy := keep_cell hbw (hr k y hy) (hg (by omega))
        have sy := (L0.each k y l hy hl).keep hbw
        have hbl := (hz1 l (List.mem_of_getElem? hl)).1
        obtain ⟨qy, ny, cy, ey⟩ := sy.slice
        subst ey
        have hly := sy.len
        have hki : (k : Int) < (n : Int) := by omega
        have hkn : k < n := by omega
        have HT1 : Hid (spN (ls.take (k + 1)) = spN (ls.take k) + (8 + l.length)) := spN_next ls k l hl
        have HT2 : Hid (frms (ls.take (k + 1)) = frms (ls.take k) ++ frm l) := frms_next ls k l hl
        have HT3 : Hid (l.length ≤ 2000 → ∀ r ∈ ls.take (k + 1), r.length ≤ 2000) := fun h => all_next ls k l hl hall h
        have HR : Hid (∀ r ∈ ls.take (k + 1), Byt r) := fun r h => (hz1 r (List.mem_of_mem_take h)).1
        have HK1 : Hid ((ls.take (k + 1)).length = k + 1) := by show _ = _; rw [List.length_take]; omega
        clear hr hp hg hy hl hall hz1
        by_cases hlong : 2000 < ny
        · have hli : (2000 : Int) < (ny : Int) := by omega
          go_wp2_with fail
          go_ret
          exact ⟨rfl, hbw⟩
        · have hli : ¬ (2000 : Int) < (ny : Int) := by omega
          go_upto_region 18 with (go_at_call 16; refine (dadd_up _ _ _ _ _ _ _ _ _ _ _ _ hT (by omega) hD sy hbl (by omega) (by omega) (by omega) (by omega)).mono ?_; rintro e V4 ⟨rfl, v4, h4, m4, hD4⟩)
          have bw4 := hbw.trans (m4.below hT hWd)
          have HX := HT3.out (by omega)
          have h5 : Tp V4 W.heap.size b v4 (up (frms (ls.take (k + 1))) (spN (ls.take (k + 1))) (2 * (k + 1))) := by rw [HT2.out, HT1.out, Nat.mul_add, ← hfl]; exact h4
          have hD5 : Blk V4 d (dcs b (k + 1) (spN (ls.take (k + 1)))) 80 := by rw [HT1.out]; exact hD4
          have hrok : Rok (ls.take (k + 1)) := fun r h => ⟨by have := HX r h; omega, HR.out r h⟩
          have HN9 : Hid (((spN (ls.take k) : Nat) : Int) + (8 + (ny : Int)) = ((spN (ls.take (k + 1)) : Nat) : Int)) := by show _ = _; rw [HT1.out]; omega
          clear h4 hD4 m4 hT hD sy dy hbw HT1 HT2 HT3 HR hfl hsb hkl
          by_cases ho : k < no
          · obtain ⟨x, hx⟩ : ∃ x, os[k]? = some x := ⟨os[k]'(by rw [hO.len]; exact ho), List.getElem?_eq_getElem _⟩
            have hoc := hO.fits
            have hom := hO.max
            have hptr := hO.ptr (by omega)
            subst hptr
            have dx := keep_cell bw4 (hO.row k x hx) (hO.lt (by omega))
            have hoi : (k : Int) < (no : Int) := by omega
            cases x with
            | false =>
              go_wp2_with fail
              exact ⟨⟨k + 1, d, v4, by omega, rfl, rfl, by rw [← HN9.out], h5, hD5, hWd, HX, bw4⟩, by simp only [intOf]; omega⟩
            | true =>
              go_wp2_with (go_at_call 12; refine (dopen_up _ _ _ (ls.take (k + 1)) _ _ _ h5 (by omega) hrok).mono ?_; rw [HK1.out]; rintro e V6 ⟨d6, q6, c6, vs6, v6, rfl, hd6, hD6, -, h6, m6⟩)
              have bw6 := bw4.trans (h5.below m6)
              exact ⟨⟨k + 1, d6, v6, by omega, rfl, rfl, by rw [← HN9.out], h6, hD6, Nat.le_trans bw4.size hd6, HX, bw6⟩, by simp only [intOf]; omega⟩
          · have hoi : ¬ (k : Int) < (no : Int) := by omega
            go_wp2_with fail
            exact ⟨⟨k + 1, d, v4, by omega, rfl, rfl, by rw [← HN9.out], h5, hD5, hWd, HX, bw4⟩, by simp only [intOf]; omega⟩

theorem own : ownKnob Try.prog.godebug = none := by kernel_rfl
theorem laidOut : laidOutB Try.prog = true := by kernel_rfl

set_option maxRecDepth 100000 in
theorem lifted (os : Os) (started : os.Started) (H : Type) (enc : TypeId × Value → H) :
    ReturnsInHanded {} Try.checked os 8 .any (Rows.diaryGrowsSpec.pre6 enc Try.prog Try.f8 Rows.diaryGrowsRow.domain false) (Rows.diaryGrowsSpec.post enc Try.prog Try.f8 false true false false) := by
  refine returnsInHanded_of_change_sized (C := Try.checked) own started (by kernel_rfl) Try.func8
    (ChangeSpec.witness6 (enc := enc) (C := Try.checked) false ⟨#[], #[.slice none 0 0, .slice none 0 0], []⟩ 8 (by kernel_rfl) (by kernel_rfl) (by kernel_rfl) (by kernel_rfl)) ?_
  intro W base args ds gs before hval0 hW hcnd hsz _
  have hval : ∀ (j : Nat) t v, Try.f8.params[j]? = some t → args[j]? = some v → Value.okWide Try.prog W .any base t v := hval0
  have hW' := hW
  obtain ⟨p, q, hA0, hV, rfl, hfz, hnd⟩ := hW
  have hA : DataW.TrodAll enc Try.prog W 0 (fun _ => true) true Try.f8.params.toList args.toList ds p := hA0
  rw [Try.params8] at hA hval
  obtain ⟨v0, vs0, d0, ds0, p0, q0, hargs, rfl, rfl, h0, r0⟩ := trodAll_cons hA
  obtain ⟨v1, vs1, d1, ds1, p1, q1, rfl, rfl, rfl, h1, r1⟩ := trodAll_cons r0
  obtain ⟨rfl, rfl, rfl⟩ := trodAll_nil r1
  obtain rfl : args = #[v0, v1] := by cases args; simp_all
  obtain ⟨rfl, rfl⟩ := trodVars_none hV
  have k0 := h0
  have lt0 : ∀ x ∈ p0, x.block < W.heap.size := by obtain ⟨m, hm⟩ := k0; exact DataW.trod_lt m _ _ _ hm
  have k1 := h1
  have lt1 : ∀ x ∈ p1, x.block < W.heap.size := by obtain ⟨m, hm⟩ := k1; exact DataW.trod_lt m _ _ _ hm
  obtain ⟨sq0_, sn0_, sk0_, vs0_, ls0_, rfl, Z0_⟩ := open_listsZ (hval 0 31 v0 rfl rfl) h0 (fun n hn => by simpa using List.all_eq_true.1 hsz n (DataW.weights_mem_each (j := 0) (t := 31) (by kernel_rfl) rfl n hn))
  obtain ⟨sq1_, sn1_, sk1_, sg1_, so1_, sl1_, rfl, Z1_⟩ := open_bools (hval 1 71 v1 rfl rfl) h1
  clear hA0 hval0
  refine (walk sq0_ sn0_ sk0_ vs0_ ls0_ Z0_ sq1_ sn1_ sk1_ sg1_ so1_ sl1_ Z1_).mono fun e W' ⟨he, bel⟩ => ?_
  subst he
  exact ⟨_, rfl, _, _, _, [], _, [], hW', trodAll_mk1 (shut_bool Try.underlying4 _), (trodAll_cons_mk (Below.trod laidOut (by kernel_rfl) (of_decide_eq_true (by kernel_rfl)) k0 bel lt0) (trodAll_cons_mk (Below.trod laidOut (by kernel_rfl) (of_decide_eq_true (by kernel_rfl)) k1 bel lt1) trodAll_mk0)), rfl, bel.frame _, fun h => by cases h⟩

theorem over : Rows.diaryGrowsRow.holds Try.pinned (OpenSpec.ofChange Rows.diaryGrowsSpec) :=
  OpenClaim.holds_of_wide 8 Try.f8 rfl rfl rfl rfl rfl rfl rfl ⟨rfl, rfl, rfl, rfl, rfl⟩ rfl rfl rfl rfl rfl (by kernel_rfl) Try.func8 (by kernel_rfl)
    (of_decide_eq_true (by kernel_rfl)) (by unfold Func.isWrapper; first | (rw [if_pos (by decide +kernel)]; kernel_rfl) | (rw [if_neg (by decide +kernel)]; exact ⟨rfl, rfl⟩))
    (fun os started H enc _ => lifted os started H enc)

theorem proved : Rows.DiaryGrowsSaid := over
end Go.Proofs.Ytalbiggmmmkclaa.diaryGrows
namespace Go.Proofs.Ytalbiggmmmkclaa
theorem diaryGrows_holds : Rows.DiaryGrowsSaid := diaryGrows.proved
#print axioms diaryGrows_holds
end Go.Proofs.Ytalbiggmmmkclaa
