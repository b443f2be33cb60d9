/-
  Copies of a message are on their way behind all others, and say the same: estuarylaw08.PostCopies returns true for every input; no condition.
-/
import Derived.Test.YteililgfjnoabaaPoH
import Derived.ProofKit
import Derived.OpenShut
import Derived.ChangeOld
import Derived.Below
import Derived.Lib.SmallJoins
namespace Go.Proofs.Yteililgfjnoabaa.postCopies
open Go.ChangeShapes Go.WideShapes Go.ChangeAt Go.RowKit Go.Joins
set_option linter.unusedVariables false

theorem put_more (ls : List (List Nat)) (l : List Nat) (j : Nat) (a b : Int) (h : ls.length + j < 4096) : put1 ⟨ls ++ List.replicate j l, a, b⟩ l = ⟨ls ++ List.replicate (j + 1) l, a, b⟩ := by
  unfold put1
  rw [if_pos (by simp; omega)]
  simp [List.replicate_succ']
theorem rep_erase (ls : List (List Nat)) (l : List Nat) (j : Nat) : (ls ++ List.replicate (j + 1) l).eraseIdx ls.length = ls ++ List.replicate j l := by
  rw [List.eraseIdx_append_of_length_le (Nat.le_refl _), Nat.sub_self, List.eraseIdx_zero]
  simp [List.replicate_succ]
set_option maxRecDepth 100000 in
set_option maxHeartbeats 4000000 in
theorem walk {W : World} (q : Option Addr) (n c : Nat) (vs : List Value) (ls : List (List Nat)) (hZ : LsZ W (.slice q n c) vs ls) (wh : Int) (hwh : I64 wh) (ti : Int) (hti : I64 ti) :
    Calls Try.prog 8 #[.slice q n c, .int .i64 wh, .int .i64 ti] W fun e w' => e = .returned (.bool true) ∧ Below W.heap.size W w' := by
  obtain ⟨L0, hB, -⟩ := hZ
  obtain ⟨hvn, hnc, hcm⟩ : ls.length = n ∧ n ≤ c ∧ c ≤ 9223372036854775807 := by
    obtain ⟨q', cap', g', off', ep', hc', hm', -⟩ := L0.open
    cases ep'
    exact ⟨rfl, hc', hm'⟩
  have hlen := L0.len
  go_enter Try.func8, Try.ntmps8
  go_upto_region 3 with (go_at_call 9; refine (alive8_any _).mono ?_; rintro e V1 ⟨rfl, hb1⟩)
  by_cases hz : n = 0
  · subst hz
    go_wp2_with fail
    go_ret
    exact ⟨rfl, hb1⟩
  · have hz1 : ((n : Int) == 0) = false := by simp; omega
    by_cases hbig : 500 < n
    · have hbi : (500 : Int) < (n : Int) := by omega
      go_wp2_with fail
      go_ret
      exact ⟨rfl, hb1⟩
    · have hbi : ¬ (500 : Int) < (n : Int) := by omega
      have L1 := L0.keep hb1
      go_upto_region 6 with (go_at_call 11; refine (pnew_any _).mono ?_; rintro e V2 ⟨rfl, h2, b2⟩)
      have st2 := pst_old h2 b2 (Nat.le_refl _) L1
      have HB : Hid (∀ l ∈ ls, Byt l ∧ l.length ≤ 9223372036854775807) := fun l hl => ⟨(hB l hl).1, by have := (hB l hl).2; omega⟩
      have HP : Hid (puts ps0 ls = ⟨ls, 0, 0⟩) := puts_new ls (by omega)
      go_upto_region 7 with (go_at_call 14; refine (send_any _ _ _ _ _ _ _ _ _ _ h2 st2 HB.out).mono ?_; rw [HP.out]; dsimp only; rw [hvn]; rintro e V3 ⟨rfl, v3, h3, m3⟩)
      have b3 := b2.trans (h2.below m3)
      clear st2 h2 m3 b2 HB HP
      go_upto_region 9 with fail
      obtain ⟨k, hk0, hk⟩ := mod_nat wh (n : Int) (by omega) (by omega)
      obtain ⟨m, hm0, hm⟩ := mod_nat ti 9 (by omega) (by omega)
      rw [hk, hm]
      have hkn : k < n := by omega
      obtain ⟨l, hl⟩ : ∃ l, ls[k]? = some l := ⟨ls[k], List.getElem?_eq_getElem (by omega)⟩
      obtain ⟨y, hy⟩ : ∃ y, vs[k]? = some y := ⟨vs[k], List.getElem?_eq_getElem (by omega)⟩
      obtain ⟨g, off, hq, -⟩ := (pst_old h3 b3 (Nat.le_refl _) L1).cell (Mv.refl _ _ _) hy
      subst hq
      have HC : Hid (∀ W', Below V1.heap.size V1 W' → W'.cell? ⟨g, off + k, none⟩ = some y) := fun W' hb => by
        have L2 := L1.keep hb
        obtain ⟨q', cap', g', off', ep', hc', hm', hp', hg', hr'⟩ := L2.open
        have h9 := hp' (by omega)
        cases ep'
        cases h9
        exact hr' k y hy
      have HS : Hid (∀ W', Below V1.heap.size V1 W' → Sl W' y l) := fun W' hb => (L1.keep hb).each k y l hy hl
      have hrefl : ((strB l).toList == (strB l).toList) = true := by simp
      have HL : Hid (∀ j, (ls ++ List.replicate j l)[k]? = some l) := fun j => by rw [List.getElem?_append_left (by omega)]; exact hl
      clear hk hm hy L0 hB
      generalize hwt : (IntKind.u64.wrap wh).tmod (n : Int) = wt
      generalize hww : IntKind.u64.wrap wh = ww
      clear hwt hww
      go_wp2_with fail
      go_loopw [39] (fun i wr => ∃ (j : Nat) (v' : Value), j ≤ m ∧ i = .int .i64 (j : Int) ∧ Pt wr V1.heap.size V1.heap.size v' ⟨ls ++ List.replicate j l, 0, 0⟩ ∧ Below V1.heap.size V1 wr) (fun i _ => m - (intOf i).toNat)
      case atStart => exact ⟨0, v3, by omega, rfl, by simpa using h3, b3⟩
      case round =>
        clear h3 b3
        obtain ⟨j, v4, hj, rfl, h4, b4⟩ := hrel
        by_cases cj : j = m
        · subst cj
          obtain ⟨q4, cap4, e4, -⟩ := h4.form
          have c2 := h4.tri.c2
          rw [e4] at c2
          have hl4 : (ls ++ List.replicate j l).length = n + j := by simp; omega
          dsimp only at c2
          rw [hl4] at c2
          go_wp2_with (go_at_call 21; refine (plen_any _ _ _ _ _ c2).mono ?_; rintro e X ⟨rfl, hX⟩; subst X)
          go_loopw [54] (fun i wr => ∃ (r : Nat) (v' : Value), r ≤ j ∧ i = .int .i64 (r : Int) ∧ Pt wr V1.heap.size V1.heap.size v' ⟨ls ++ List.replicate (j - r) l, 0, (r : Int)⟩ ∧ Below V1.heap.size V1 wr) (fun i _ => j - (intOf i).toNat)
          case atStart => exact ⟨0, v4, by omega, rfl, h4, b4⟩
          case round =>
            clear h4 b4 c2 hl4 e4
            obtain ⟨r, v5, hr, rfl, h5, b5⟩ := hrel
            by_cases cr : r = j
            · subst cr
              rw [Nat.sub_self] at h5
              have h5' : Pt wr V1.heap.size V1.heap.size v5 ⟨ls, 0, (r : Int)⟩ := by simpa using h5
              clear h5
              go_upto_region 23 with (go_at_call 18; refine (deliver_yes _ _ k _ _ l _ h5' hl).mono ?_; rintro e V6 ⟨x6, v6, rfl, M6, h6, m6⟩)
              have b6 := b5.trans (h5'.below m6)
              clear m6 h5' b5
              obtain ⟨q6, cap6, e6, -⟩ := h6.form
              refine wp_region_held_drew (S := fun w' => w' = V6.drew) (by kernel_rfl) rfl (fun hHeld => ?_)
              have bd : Below V6.heap.size V6 V6.drew := (Below.refl _ _).drew
              have b7 := ab_trans b6 bd
              have h7 := h6.keep bd
              have M7 := M6.keep bd
              have cy := HC.out _ b7
              have sy := HS.out _ b7
              have sx := M7.sl
              have c7 := h7.tri.c2
              rw [e6] at c7
              dsimp only at c7
              have hN1 : (ls.eraseIdx k).length + 1 ≤ n ∧ n ≤ (ls.eraseIdx k).length + 1 := by rw [List.length_eraseIdx_of_lt (by omega)]; omega
              clear h6 h7 M6 M7 b6 bd
              generalize (ls.eraseIdx k).length = N1 at *
              have hE : ((N1 : Int) == (n : Int) - 1) = true := by simp; omega
              generalize V6.drew = V7 at *
              refine takeH (i := 0) (some 82) rfl rfl (by kernel_rfl) (by kernel_rfl) (by kernel_rfl) (fun _ _ _ h => h) (by rfl) (fun w hSw => by (try dsimp only at hSw); go_simp; try rfl) hHeld ?_
              go_frame
              refine takeH (i := 1) (some 83) rfl rfl (by kernel_rfl) (by kernel_rfl) (by kernel_rfl) (fun _ _ _ h => h) (by rfl) (fun w hSw => by (try dsimp only at hSw); go_simp; try rfl) hHeld ?_
              go_frame
              refine takeH (i := 2) (some 84) rfl rfl (by kernel_rfl) (by kernel_rfl) (by kernel_rfl) (fun _ _ _ h => h) (by rfl) (fun w hSw => by (try dsimp only at hSw); go_simp; try rfl) hHeld ?_
              go_frame
              refine takeH (i := 3) (some 85) rfl rfl (by kernel_rfl) (by kernel_rfl) (by kernel_rfl) (fun _ _ _ h => h) (by rfl) (fun w hSw => by (try dsimp only at hSw); (subst hSw; exact cv_run (x := .tmp 84) rfl rfl sx)) hHeld ?_
              go_frame
              refine takeH (i := 4) (some 86) rfl rfl (by kernel_rfl) (by kernel_rfl) (by kernel_rfl) (fun _ _ _ h => h) (by rfl) (fun w hSw => by (try dsimp only at hSw); go_simp; try rfl) hHeld ?_
              go_frame
              refine takeH (i := 5) (some 87) rfl rfl (by kernel_rfl) (by kernel_rfl) (by kernel_rfl) (fun _ _ _ h => h) (by rfl) (fun w hSw => by (try dsimp only at hSw); go_simp; try rfl) hHeld ?_
              go_frame
              refine takeH (i := 6) (some 88) rfl rfl (by kernel_rfl) (by kernel_rfl) (by kernel_rfl) (fun _ _ _ h => h) (by rfl) (fun w hSw => by (try dsimp only at hSw); go_simp; try rfl) hHeld ?_
              go_frame
              refine takeH (i := 7) (some 89) rfl rfl (by kernel_rfl) (by kernel_rfl) (by kernel_rfl) (fun _ _ _ h => h) (by rfl) (fun w hSw => by (try dsimp only at hSw); (subst hSw; go_simp; try rfl)) hHeld ?_
              go_frame
              refine takeH (i := 8) (some 90) rfl rfl (by kernel_rfl) (by kernel_rfl) (by kernel_rfl) (fun _ _ _ h => h) (by rfl) (fun w hSw => by (try dsimp only at hSw); (subst hSw; exact cv_run (x := .tmp 89) rfl rfl sy)) hHeld ?_
              go_frame
              refine takeH (i := 9) (some 91) rfl rfl (by kernel_rfl) (by kernel_rfl) (by kernel_rfl) (fun _ _ _ h => h) (by rfl) (fun w hSw => by (try dsimp only at hSw); (refine (?_ : _ = Result.ok (Next.value (.bool true)) _); go_simp; try rfl)) hHeld ?_
              go_frame
              refine takeH (i := 10) (some 92) rfl rfl (by kernel_rfl) (by kernel_rfl) (by kernel_rfl) (fun _ _ _ h => h) (by rfl) (fun w hSw => by (try dsimp only at hSw); go_simp; try rfl) hHeld ?_
              go_frame
              refine takeH (i := 11) (some 93) rfl rfl (by kernel_rfl) (by kernel_rfl) (by kernel_rfl) (fun _ _ _ h => h) (by rfl) (fun w hSw => by (try dsimp only at hSw); go_simp; try rfl) hHeld ?_
              go_frame
              refine takeH (i := 12) (some 94) rfl rfl (by kernel_rfl) (by kernel_rfl) (by kernel_rfl) (fun _ _ _ h => h) (by rfl) (fun w hSw => by (try dsimp only at hSw); go_simp; try rfl) hHeld ?_
              go_frame
              refine takeH (i := 14) (some 96) rfl rfl (by kernel_rfl) (by kernel_rfl) (by kernel_rfl) (fun _ _ _ h => h) (by rfl) (fun w hSw => by (try dsimp only at hSw); go_simp; try rfl) hHeld ?_
              go_frame
              refine takeH (i := 15) (some 97) rfl rfl (by kernel_rfl) (by kernel_rfl) (by kernel_rfl) (fun _ _ _ h => h) (by rfl) (fun w hSw => by (try dsimp only at hSw); go_simp; try rfl) hHeld ?_
              go_frame
              refine takeH (i := 16) (some 98) rfl rfl (by kernel_rfl) (by kernel_rfl) (by kernel_rfl) (fun _ _ _ h => h) (by rfl) (fun w hSw => by (try dsimp only at hSw); go_simp; try rfl) hHeld ?_
              go_frame
              refine wpAnyH_ready (rs := [13]) (by kernel_rfl) (by simp) (AllReadyH.cons rfl (fun K hK => ?_) AllReadyH.nil)
              go_simp
              refine (plen_any _ _ _ _ _ c7).mono ?_
              rintro e X ⟨rfl, hX⟩
              subst X
              show K _ _
              refine hK.out _ _ rfl (fun hHeld => ?_)
              clear hK K
              try go_frame
              refine takeH (i := 17) (some 99) rfl rfl (by kernel_rfl) (by kernel_rfl) (by kernel_rfl) (fun _ _ _ h => h) (by rfl) (fun w hSw => by (try dsimp only at hSw); (refine (?_ : _ = Result.ok (Next.value (.bool true)) _); go_simp; rw [IntKind.wrap_i64]; omega)) hHeld ?_
              go_frame
              refine takeH (i := 18) (some 100) rfl rfl (by kernel_rfl) (by kernel_rfl) (by kernel_rfl) (fun _ _ _ h => h) (by rfl) (fun w hSw => by (try dsimp only at hSw); go_simp; try rfl) hHeld ?_
              go_frame
              refine takeH (i := 19) (some 6) rfl rfl (by kernel_rfl) (by kernel_rfl) (by kernel_rfl) (fun _ _ _ h => h) (by rfl) (fun w hSw => by (try dsimp only at hSw); go_simp; try rfl) hHeld ?_
              go_frame
              refine wpAnyH_done (by kernel_rfl) ?_ _
              go_wp2_with fail
              go_ret
              exact ⟨rfl, ab_trans hb1 b7⟩
            · have hri : (r : Int) < (j : Int) := by omega
              have hrj : r < j := by omega
              obtain ⟨d, hd⟩ : ∃ d, j - r = d + 1 := ⟨j - r - 1, by omega⟩
              have hd' : j - (r + 1) = d := by omega
              rw [hd] at h5
              have hmn : (ls ++ List.replicate (d + 1) l)[n]? = some l := by rw [List.getElem?_append_right (by omega), hvn, Nat.sub_self]; rfl
              have HE : Hid ((ls ++ List.replicate (d + 1) l).eraseIdx n = ls ++ List.replicate d l) := by rw [← hvn]; exact rep_erase ls l d
              have HI : Hid (inc (r : Int) = ((r + 1 : Nat) : Int)) := inc_nat r (by omega)
              have HD : Hid (j - (r + 1) = d) := hd'
              clear hd hd'
              go_upto_region 19 with (go_at_call 18; refine (deliver_yes _ _ n _ _ l _ h5 hmn).mono ?_; rintro e V6 ⟨x6, v6, rfl, M6, h6, m6⟩)
              have b6 := b5.trans (h5.below m6)
              rw [HE.out, HI.out] at h6
              clear m6 h5 b5
              refine wp_region_held_drew (S := fun w' => w' = V6.drew) (by kernel_rfl) rfl (fun hHeld => ?_)
              have bd : Below V6.heap.size V6 V6.drew := (Below.refl _ _).drew
              have b7 := ab_trans b6 bd
              have h7 := h6.keep bd
              have M7 := M6.keep bd
              have cy := HC.out _ b7
              have sy := HS.out _ b7
              have sx := M7.sl
              clear h6 M6 M7 b6 bd
              generalize V6.drew = V7 at *
              refine takeH (i := 0) (some 63) rfl rfl (by kernel_rfl) (by kernel_rfl) (by kernel_rfl) (fun _ _ _ h => h) (by rfl) (fun w hSw => by (try dsimp only at hSw); go_simp; try rfl) hHeld ?_
              go_frame
              refine takeH (i := 1) (some 64) rfl rfl (by kernel_rfl) (by kernel_rfl) (by kernel_rfl) (fun _ _ _ h => h) (by rfl) (fun w hSw => by (try dsimp only at hSw); go_simp; try rfl) hHeld ?_
              go_frame
              refine takeH (i := 2) (some 65) rfl rfl (by kernel_rfl) (by kernel_rfl) (by kernel_rfl) (fun _ _ _ h => h) (by rfl) (fun w hSw => by (try dsimp only at hSw); go_simp; try rfl) hHeld ?_
              go_frame
              refine takeH (i := 3) (some 66) rfl rfl (by kernel_rfl) (by kernel_rfl) (by kernel_rfl) (fun _ _ _ h => h) (by rfl) (fun w hSw => by (try dsimp only at hSw); go_simp; try rfl) hHeld ?_
              go_frame
              refine takeH (i := 4) (some 67) rfl rfl (by kernel_rfl) (by kernel_rfl) (by kernel_rfl) (fun _ _ _ h => h) (by rfl) (fun w hSw => by (try dsimp only at hSw); (subst hSw; exact cv_run (x := .tmp 66) rfl rfl sx)) hHeld ?_
              go_frame
              refine takeH (i := 5) (some 68) rfl rfl (by kernel_rfl) (by kernel_rfl) (by kernel_rfl) (fun _ _ _ h => h) (by rfl) (fun w hSw => by (try dsimp only at hSw); go_simp; try rfl) hHeld ?_
              go_frame
              refine takeH (i := 6) (some 69) rfl rfl (by kernel_rfl) (by kernel_rfl) (by kernel_rfl) (fun _ _ _ h => h) (by rfl) (fun w hSw => by (try dsimp only at hSw); go_simp; try rfl) hHeld ?_
              go_frame
              refine takeH (i := 7) (some 70) rfl rfl (by kernel_rfl) (by kernel_rfl) (by kernel_rfl) (fun _ _ _ h => h) (by rfl) (fun w hSw => by (try dsimp only at hSw); go_simp; try rfl) hHeld ?_
              go_frame
              refine takeH (i := 8) (some 71) rfl rfl (by kernel_rfl) (by kernel_rfl) (by kernel_rfl) (fun _ _ _ h => h) (by rfl) (fun w hSw => by (try dsimp only at hSw); (subst hSw; go_simp; try rfl)) hHeld ?_
              go_frame
              refine takeH (i := 9) (some 72) rfl rfl (by kernel_rfl) (by kernel_rfl) (by kernel_rfl) (fun _ _ _ h => h) (by rfl) (fun w hSw => by (try dsimp only at hSw); (subst hSw; exact cv_run (x := .tmp 71) rfl rfl sy)) hHeld ?_
              go_frame
              refine takeH (i := 10) (some 73) rfl rfl (by kernel_rfl) (by kernel_rfl) (by kernel_rfl) (fun _ _ _ h => h) (by rfl) (fun w hSw => by (try dsimp only at hSw); (refine (?_ : _ = Result.ok (Next.value (.bool false)) _); go_simp; try rfl)) hHeld ?_
              go_frame
              refine takeH (i := 11) (some 74) rfl rfl (by kernel_rfl) (by kernel_rfl) (by kernel_rfl) (fun _ _ _ h => h) (by rfl) (fun w hSw => by (try dsimp only at hSw); go_simp; try rfl) hHeld ?_
              go_frame
              refine wpAnyH_done (by kernel_rfl) ?_ _
              go_wp2_with fail
              exact ⟨⟨r + 1, v6, by omega, rfl, by rw [HD.out]; exact h7, b7⟩, by simp only [intOf]; omega⟩
        · have hji : (j : Int) < (m : Int) := by omega
          have hjm : j < m := by omega
          have HU : Hid (put1 ⟨ls ++ List.replicate j l, 0, 0⟩ l = ⟨ls ++ List.replicate (j + 1) l, 0, 0⟩) := put_more ls l j 0 0 (by omega)
          go_wp2_with (go_at_call 20; refine (copy_yes _ _ k _ _ l _ h4 (HL.out j)).mono ?_; rw [HU.out]; rintro e V5 ⟨rfl, v5, h5, m5⟩)
          exact ⟨⟨j + 1, v5, by omega, rfl, h5, b4.trans (h4.below m5)⟩, by simp only [intOf]; omega⟩

theorem own : ownKnob Try.prog.godebug = none := by kernel_rfl
theorem laidOut : laidOutB Try.prog = true := by kernel_rfl

set_option maxRecDepth 100000 in
theorem lifted (os : Os) (started : os.Started) (H : Type) (enc : TypeId × Value → H) :
    ReturnsInHanded {} Try.checked os 8 .any (Rows.postCopiesSpec.pre6 enc Try.prog Try.f8 Rows.postCopiesRow.domain false) (Rows.postCopiesSpec.post enc Try.prog Try.f8 false true false false) := by
  refine returnsInHanded_of_change_sized (C := Try.checked) own started (by kernel_rfl) Try.func8
    (ChangeSpec.witness6 (enc := enc) (C := Try.checked) false ⟨#[], #[.slice none 0 0, .int .i64 0, .int .i64 0], []⟩ 8 (by kernel_rfl) (by kernel_rfl) (by kernel_rfl) (by kernel_rfl)) ?_
  intro W base args ds gs before hval0 hW hcnd hsz _
  have hval : ∀ (j : Nat) t v, Try.f8.params[j]? = some t → args[j]? = some v → Value.okWide Try.prog W .any base t v := hval0
  have hW' := hW
  obtain ⟨p, q, hA0, hV, rfl, hfz, hnd⟩ := hW
  have hA : DataW.TrodAll enc Try.prog W 0 (fun _ => true) true Try.f8.params.toList args.toList ds p := hA0
  rw [Try.params8] at hA hval
  obtain ⟨v0, vs0, d0, ds0, p0, q0, hargs, rfl, rfl, h0, r0⟩ := trodAll_cons hA
  obtain ⟨v1, vs1, d1, ds1, p1, q1, rfl, rfl, rfl, h1, r1⟩ := trodAll_cons r0
  obtain ⟨v2, vs2, d2, ds2, p2, q2, rfl, rfl, rfl, h2, r2⟩ := trodAll_cons r1
  obtain ⟨rfl, rfl, rfl⟩ := trodAll_nil r2
  obtain rfl : args = #[v0, v1, v2] := by cases args; simp_all
  obtain ⟨rfl, rfl⟩ := trodVars_none hV
  have k0 := h0
  have lt0 : ∀ x ∈ p0, x.block < W.heap.size := by obtain ⟨m, hm⟩ := k0; exact DataW.trod_lt m _ _ _ hm
  have k1 := h1
  have lt1 : ∀ x ∈ p1, x.block < W.heap.size := by obtain ⟨m, hm⟩ := k1; exact DataW.trod_lt m _ _ _ hm
  have k2 := h2
  have lt2 : ∀ x ∈ p2, x.block < W.heap.size := by obtain ⟨m, hm⟩ := k2; exact DataW.trod_lt m _ _ _ hm
  obtain ⟨sq0_, sn0_, sk0_, vs0_, ls0_, rfl, Z0_⟩ := open_listsZ (hval 0 31 v0 rfl rfl) h0 (fun n hn => by simpa using List.all_eq_true.1 hsz n (DataW.weights_mem_each (j := 0) (t := 31) (by kernel_rfl) rfl n hn))
  obtain ⟨a1, rfl, rfl, rfl, w1⟩ := open_int Try.underlying3 (hval 1 3 v1 rfl rfl) h1
  obtain ⟨a2, rfl, rfl, rfl, w2⟩ := open_int Try.underlying3 (hval 2 3 v2 rfl rfl) h2
  clear hA0 hval0
  refine (walk sq0_ sn0_ sk0_ vs0_ ls0_ Z0_ a1 (bounds_i64 w1) a2 (bounds_i64 w2)).mono fun e W' ⟨he, bel⟩ => ?_
  subst he
  exact ⟨_, rfl, _, _, _, [], _, [], hW', trodAll_mk1 (shut_bool Try.underlying4 _), (trodAll_cons_mk (Below.trod laidOut (by kernel_rfl) (of_decide_eq_true (by kernel_rfl)) k0 bel lt0) (trodAll_cons_mk (Below.trod laidOut (by kernel_rfl) (of_decide_eq_true (by kernel_rfl)) k1 bel lt1) (trodAll_cons_mk (Below.trod laidOut (by kernel_rfl) (of_decide_eq_true (by kernel_rfl)) k2 bel lt2) trodAll_mk0))), rfl, bel.frame _, fun h => by cases h⟩

theorem over : Rows.postCopiesRow.holds Try.pinned (OpenSpec.ofChange Rows.postCopiesSpec) :=
  OpenClaim.holds_of_wide 8 Try.f8 rfl rfl rfl rfl rfl rfl rfl ⟨rfl, rfl, rfl, rfl, rfl⟩ rfl rfl rfl rfl rfl (by kernel_rfl) Try.func8 (by kernel_rfl)
    (of_decide_eq_true (by kernel_rfl)) (by unfold Func.isWrapper; first | (rw [if_pos (by decide +kernel)]; kernel_rfl) | (rw [if_neg (by decide +kernel)]; exact ⟨rfl, rfl⟩))
    (fun os started H enc _ => lifted os started H enc)

theorem proved : Rows.PostCopiesSaid := over
end Go.Proofs.Yteililgfjnoabaa.postCopies
namespace Go.Proofs.Yteililgfjnoabaa
theorem postCopies_holds : Rows.PostCopiesSaid := postCopies.proved
#print axioms postCopies_holds
end Go.Proofs.Yteililgfjnoabaa
