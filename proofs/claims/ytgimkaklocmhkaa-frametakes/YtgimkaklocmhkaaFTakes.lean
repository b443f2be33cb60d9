/-
  What numbers any bytes begin with, and consist of: estuarylaw04.FrameTakes returns true for every input; no condition.
-/
import Derived.Test.YtgimkaklocmhkaaFrE
import Derived.Test.YtgimkaklocmhkaaFrW
import Derived.Test.YtgimkaklocmhkaaFrS
import Derived.Test.YtgimkaklocmhkaaFrL
import Derived.ProofKit
import Derived.OpenShut
import Derived.ChangeOld
import Derived.Below
import Derived.Lib.SmallJoins
namespace Go.Proofs.Ytgimkaklocmhkaa.frameTakes
open Go.ChangeShapes Go.WideShapes Go.ChangeAt Go.RowKit Go.Joins
set_option linter.unusedVariables false

theorem ints_is (v1 v2 : Value) (l1 l2 : List Int) (w : World) (h1 : Is w v1 l1) (h2 : Is w v2 l2) (hm1 : l1.length ≤ 100000) (hm2 : l2.length ≤ 100000) :
    Calls Try.prog 15 #[v1, v2] w fun e w' => e = .returned (.bool (decide (l1 = l2))) ∧ Below w.heap.size w w' := by
  obtain ⟨q1, c1, g1, o1, rfl, _, _, hp1, hg1, hr1⟩ := h1
  obtain ⟨q2, c2, g2, o2, rfl, _, _, hp2, hg2, hr2⟩ := h2
  exact ints_any q1 g1 o1 c1 _ l1 q2 g2 o2 c2 _ l2 w rfl rfl hm1 hm2 hp1 hp2 hr1 hr2 hg1 hg2
theorem ints_same (v1 v2 : Value) (l : List Int) (w : World) (h1 : Is w v1 l) (h2 : Is w v2 l) (hm : l.length ≤ 100000) :
    Calls Try.prog 15 #[v1, v2] w fun e w' => e = .returned (.bool true) ∧ Below w.heap.size w w' :=
  (ints_is v1 v2 l l w h1 h2 hm hm).mono fun e w' ⟨h, hb⟩ => ⟨by rw [h, decide_eq_true rfl], hb⟩
theorem is_nil (w : World) : Is w (.slice none 0 0) [] := own_is (World.ownsRow_nil w 0 3 1)
theorem nus_len (l : List Nat) : ∀ r, nus l = some r → r.length ≤ l.length := by
  intro r
  induction hl : l.length using Nat.strongRecOn generalizing l r with
  | _ n ih =>
    intro h
    by_cases c : l = []
    · subst c; rw [nus_nil] at h; cases h; simp
    · cases hok : nOK l with
      | false => rw [nus_no c hok] at h; cases h
      | true =>
        rw [nus_go hok] at h
        have hs := nS_le hok
        cases hr : nus (l.drop (nS l)) with
        | none => rw [hr] at h; cases h
        | some r' =>
          rw [hr] at h
          cases h
          have := ih (l.drop (nS l)).length (by rw [List.length_drop]; omega) (l.drop (nS l)) r' rfl hr
          rw [List.length_drop] at this
          simp
          omega
theorem numsR_len {l : List Nat} {most : Int} {r : List Int} (h : numsR l most = some r) : r.length ≤ l.length := by
  unfold numsR at h
  cases hn : nus l with
  | none => rw [hn] at h; cases h
  | some x =>
    rw [hn, Option.bind_some] at h
    split at h
    · cases h
    · cases h; exact nus_len l _ hn
/-- What stands behind a slice of its own, an old one and a copy. -/
theorem bag2 {W : World} {base base2 : Nat} {v u : Value} {l m : List Nat} {W0 : World} (hv : Ow W base2 v l) (hu0 : Ow W0 base u m) (hu : Ow W base u m) (h1 : base ≤ base2) (h2 : W0.heap.size ≤ base2) : Bag W base [v, u] [l, m] :=
  bag_snoc (bag1 (hv.less h1)) hu (fun x hx => by simp at hx; subst hx; exact (sep_new hu0 hv h2).symm)
theorem bag2nil {W : World} {base : Nat} {u : Value} {m : List Nat} (hu : Ow W base u m) : Bag W base [.slice none 0 0, u] [[], m] :=
  bag_snoc (bag1 (show Ow W base (.slice none 0 0) [] from World.ownsRow_nil W base 5 1)) hu (fun x hx => by simp at hx; subst hx; exact (sep_nil u 0 0).symm)
set_option maxRecDepth 100000 in
set_option maxHeartbeats 2000000 in
theorem walk {W : World} (v0 : Value) (b : List Nat) (S0 : Sl W v0 b) (B0 : Byt b) (most : Int) (hmost : -9223372036854775808 ≤ most ∧ most ≤ 9223372036854775807) :
    Calls Try.prog 4 #[v0, .int .i64 most] W fun e w' => e = .returned (.bool true) ∧ Below W.heap.size W w' := by
  obtain ⟨q0, c0, e0, -⟩ := id S0
  subst e0
  go_enter Try.func4, Try.ntmps4
  go_upto_region 3 with (go_at_call 9; refine (alive4_any _).mono ?_; rintro e V1 ⟨rfl, hb1⟩)
  have S01 := S0.keep hb1
  go_wp2_with (refine bs_ls rfl rfl [_] [b] (by simp only [List.map_toArray, List.map_cons, List.map_nil]; rfl) (bsl1 _ _ _ _) rfl (by decide) rfl (each1 S01) ?_; intro V2 hls2 hb2 hbk2)
  refine (large_any _ _ _ _ hls2).mono ?_
  rintro e V3 ⟨⟨r, rfl, hr⟩, rfl⟩
  have hbV := ab_trans hb1 hb2
  clear hls2 hbk2 hb1 hb2 S01
  cases r with
  | true =>
    go_wp2_with fail
    go_ret
    exact ⟨rfl, hbV⟩
  | false =>
    obtain ⟨-, htot⟩ := hr rfl
    have hbl : b.length ≤ 65536 := by simpa using htot
    clear hr htot
    have HNSle : Hid (nOK b = true → nS b ≤ b.length ∧ 1 ≤ nS b) := fun h => ⟨(nS_le h).1, (nS_le h).2.2⟩
    have HRL : Hid (∀ r, numsR b most = some r → r.length ≤ b.length) := fun r h => numsR_len h
    generalize hnb : b.length = nb at *
    go_upto_region 6 with (go_at_call 11; refine (copy_any _ b _ (S0.keep hbV) (by omega)).mono ?_; rintro e V4 ⟨v4, rfl, HC4, hb4⟩)
    obtain ⟨g4, cap4, e4, -⟩ := id HC4
    rw [hnb] at e4
    subst e4
    have h33 := ne33
    have h33e := eq33
    have h00 := ne00
    have h00e := eq00
    have h30e := eq30
    cases hok : nOK b with
    | false =>
      have HT : Hid (∀ W, Sl W (.slice q0 nb c0) b → Calls Try.prog 18 #[.slice q0 nb c0] W fun e w' => e = .returned (.tuple #[.int .i64 0, .int .i64 0]) ∧ Below W.heap.size W w') := fun W h => by
        have := rtake_any _ _ W h B0 (by omega)
        have e1 : rV b = 0 := by unfold rV; rw [if_neg (by simp [hok])]
        have e2 : rS b = 0 := by unfold rS; rw [if_neg (by simp [hok])]
        rw [e1, e2] at this
        exact this
      go_upto_region 7 with (go_at_call 17; refine (ftake_no _ b _ HC4.ow.sl B0 hok).mono ?_; rintro e V5 ⟨rfl, hb5⟩)
      have S05 := S0.keep (ab_trans hbV (ab_trans hb4 hb5))
      go_upto_region 8 with (go_at_call 18; refine (HT.out _ S05).mono ?_; rintro e V6 ⟨rfl, hb6⟩)
      refine wp_region_below (by kernel_rfl) (by kernel_rfl) ?_
      have HZ := cls_some V6
      repeat (go_big_quiet_step (fail))
      refine wpQuiet_nil ?_
      rintro _ ⟨y, rfl⟩
      obtain ⟨V7, hb7⟩ := y
      dsimp only
      have HC7 := ((HC4.keep hb5).keep hb6).keep hb7
      have hb37 := ab_trans hb4 (ab_trans hb5 (ab_trans hb6 hb7))
      have HBag : Hid (∀ W', Below V7.heap.size V7 W' → Bag W' V3.heap.size [.slice none 0 0, .slice (some ⟨g4, 0, none⟩) nb cap4] [[], b]) := fun W' h => (bag2nil HC7.ow).keep h
      clear HT S05 hb5 hb6 hb7 HZ
      have S07 := S0.keep (ab_trans hbV hb37)
      have HL2 : Hid (∀ l ∈ [[], b], l.length ≤ 110000) := by intro l hl; simp at hl; rcases hl with rfl | rfl; simp; omega
      cases hR : numsR b most with
      | none =>
        go_upto_region 11 with (go_at_call 19; refine (fnums_any _ b most _ HC7.ow.sl B0 (by omega)).mono ?_; rintro e V8 ⟨hnp, hb8⟩; obtain rfl := hnp.none hR; clear hnp)
        go_upto_region 12 with (go_at_call 20; refine (fr_nums_any _ b most _ (S07.keep hb8) B0 (by omega)).mono ?_; rintro e V9 ⟨hnp, hb9⟩; obtain rfl := hnp.none hR; clear hnp)
        have hb79 := ab_trans hb8 hb9
        go_upto_region 14 with (first
          | (go_at_call 15; refine (ints_same _ _ [] _ (is_nil _) (is_nil _) (by simp)).mono ?_; rintro e V10 ⟨rfl, hb10⟩)
          | (go_at_call 14; refine (kept_any _ _ b V3.heap.size _ (HC7.keep (ab_trans hb79 hb10)) (S07.keep (ab_trans hb79 hb10)) (by omega)).mono ?_; rintro e V11 ⟨rfl, rfl⟩))
        have hb710 := ab_trans hb79 hb10
        go_wp2_with (first
          | (refine bs_ls rfl rfl [Value.slice none 0 0, .slice (some ⟨g4, 0, none⟩) nb cap4] [[], b] (by simp only [List.map_toArray, List.map_cons, List.map_nil]; rfl) (bsl2 _ _ _ _ _ _ _) rfl (by decide) rfl (each2 ((sl_nil V7).keep hb710) (HC7.ow.sl.keep hb710)) ?_; intro V12 hls12 hb12 hbk12)
          | (go_at_call 16; refine (apart_new V3 _ _ _ _ 2 (ab_trans hb37 hb710) (HBag.out _ hb710) hbk12 hb12 rfl (by omega) HL2.out).mono ?_; rintro e V13 ⟨rfl, hb13⟩))
        all_goals (go_ret; exact ⟨rfl, ab_trans hbV hb13⟩)
      | some r =>
        have hrl := HRL.out r hR
        go_upto_region 11 with (go_at_call 19; refine (fnums_any _ b most _ HC7.ow.sl B0 (by omega)).mono ?_; rintro e V8 ⟨hnp, hb8⟩; obtain ⟨v8, rfl, HI8⟩ := hnp.some r hR; clear hnp)
        go_upto_region 12 with (go_at_call 20; refine (fr_nums_any _ b most _ (S07.keep hb8) B0 (by omega)).mono ?_; rintro e V9 ⟨hnp, hb9⟩; obtain ⟨v9, rfl, HI9⟩ := hnp.some r hR; clear hnp)
        have hb79 := ab_trans hb8 hb9
        go_upto_region 14 with (first
          | (go_at_call 15; refine (ints_same _ _ r _ (HI8.keep hb9).is HI9.is (by omega)).mono ?_; rintro e V10 ⟨rfl, hb10⟩)
          | (go_at_call 14; refine (kept_any _ _ b V3.heap.size _ (HC7.keep (ab_trans hb79 hb10)) (S07.keep (ab_trans hb79 hb10)) (by omega)).mono ?_; rintro e V11 ⟨rfl, rfl⟩))
        have hb710 := ab_trans hb79 hb10
        go_wp2_with (first
          | (refine bs_ls rfl rfl [Value.slice none 0 0, .slice (some ⟨g4, 0, none⟩) nb cap4] [[], b] (by simp only [List.map_toArray, List.map_cons, List.map_nil]; rfl) (bsl2 _ _ _ _ _ _ _) rfl (by decide) rfl (each2 ((sl_nil V7).keep hb710) (HC7.ow.sl.keep hb710)) ?_; intro V12 hls12 hb12 hbk12)
          | (go_at_call 16; refine (apart_new V3 _ _ _ _ 2 (ab_trans hb37 hb710) (HBag.out _ hb710) hbk12 hb12 rfl (by omega) HL2.out).mono ?_; rintro e V13 ⟨rfl, hb13⟩))
        all_goals (go_ret; exact ⟨rfl, ab_trans hbV hb13⟩)
    | true =>
      have hns := HNSle.out hok
      have HT : Hid (∀ W, Sl W (.slice q0 nb c0) b → Calls Try.prog 18 #[.slice q0 nb c0] W fun e w' => e = .returned (.tuple #[.int .i64 (nV b), .int .i64 ((nS b : Nat) : Int)]) ∧ Below W.heap.size W w') := fun W h => by
        have := rtake_any _ _ W h B0 (by omega)
        have e1 : rV b = nV b := by unfold rV; rw [if_pos hok]
        have e2 : rS b = nS b := by unfold rS; rw [if_pos hok]
        rw [e1, e2] at this
        exact this
      have HTk : Hid (∀ W, Sl W (.slice (some ⟨g4, 0, none⟩) nb cap4) b → Calls Try.prog 17 #[.slice (some ⟨g4, 0, none⟩) nb cap4] W fun e w' => ∃ v', e = .returned (.tuple #[.int .i64 (nV b), v', .nilIface]) ∧ Ow w' W.heap.size v' (b.drop (nS b)) ∧ Below W.heap.size W w') := fun W h => ftake_ok _ b W h B0 (by omega) hok
      generalize hV : nV b = x at *
      generalize hSz : nS b = sz at *
      have HDL : Hid ((b.drop sz).length = nb - sz) := by show _ = _; rw [List.length_drop, hnb]
      clear hok HNSle
      go_upto_region 7 with (go_at_call 17; refine (HTk.out _ HC4.ow.sl).mono ?_; rintro e V5 ⟨v5, rfl, HO5, hb5⟩)
      have S05 := S0.keep (ab_trans hbV (ab_trans hb4 hb5))
      go_upto_region 8 with (go_at_call 18; refine (HT.out _ S05).mono ?_; rintro e V6 ⟨rfl, hb6⟩)
      obtain ⟨q5, c5, e5⟩ := HO5.form
      rw [HDL.out] at e5
      subst e5
      generalize hn5 : nb - sz = n5 at *
      have S06 := S05.keep hb6
      have hszi : ((sz : Int) == 0) = false := by simp; omega
      have hszp : (0 : Int) < (sz : Int) := by omega
      have hszd : decide ((0 : Int) < (sz : Int)) = true := decide_eq_true hszp
      have hszn : decide (0 < sz) = true := decide_eq_true (by omega)
      have hxx : (x != x) = false := by simp
      obtain ⟨q6, e6⟩ := sliced_form q0 sz nb c0
      have s6 := S06.sub hns.1 (Nat.le_refl _) (Nat.le_refl _) S06.len.2.1 e6.symm
      rw [List.take_of_length_le (by rw [List.length_drop]; omega)] at s6
      have hcap := S06.len.2.1
      have HTK : Hid ((b.drop sz).take (nb - sz) = b.drop sz) := by show _ = _; rw [List.take_of_length_le (by rw [List.length_drop]; omega)]
      have hO6 := (HO5.keep hb6).sl
      have cv1 : ∀ y : Cls V6, (convert 22 9 (.slice q5 n5 c5)).run Try.prog y.val = .ok (.string (strB (b.drop sz))) y.val := fun y => sl_str (hO6.keep y.prop)
      have cv2 : ∀ y : Cls V6, (convert 22 9 (.slice q6 (nb - sz) (c0 - sz))).run Try.prog y.val = .ok (.string (strB (b.drop sz))) y.val := fun y => sl_str (s6.keep y.prop)
      refine wp_region_below (by kernel_rfl) (by kernel_rfl) ?_
      have HZ := cls_some V6
      repeat (go_big_quiet_step (fail))
      refine quiet_val rfl (.string (strB (b.drop sz))) (fun w' hC => by
        obtain ⟨yy, rfl⟩ := hC
        refine cv_run (x := .tmp 65) rfl rfl ?_
        rw [← HTK.out]
        refine (S06.sub hns.1 (Nat.le_refl _) (Nat.le_refl _) hcap ?_).keep yy.prop
        first
          | rfl
          | (simp only [sliced, Nat.mul_one, hn5]; rfl)
          | (simp only [sliced, Nat.mul_one, ← hn5]; rfl)) ?_
      go_frame
      repeat (go_big_quiet_step (fail))
      refine wpQuiet_nil ?_
      rintro _ ⟨y, rfl⟩
      obtain ⟨V7, hb7⟩ := y
      dsimp only
      have HC7 := ((HC4.keep hb5).keep hb6).keep hb7
      have HO7 := (HO5.keep hb6).keep hb7
      have hb37 := ab_trans hb4 (ab_trans hb5 (ab_trans hb6 hb7))
      have HBag : Hid (∀ W', Below V7.heap.size V7 W' → Bag W' V3.heap.size [.slice q5 n5 c5, .slice (some ⟨g4, 0, none⟩) nb cap4] [b.drop sz, b]) := fun W' h => (bag2 HO7 HC4.ow HC7.ow hb4.size (Nat.le_refl _)).keep h
      clear HT HTk S05 S06 s6 e6 cv1 cv2 hO6 hb5 hb6 hb7 HZ
      have S07 := S0.keep (ab_trans hbV hb37)
      have HL2 : Hid (∀ l ∈ [b.drop sz, b], l.length ≤ 110000) := by intro l hl; simp at hl; rcases hl with rfl | rfl; rw [List.length_drop]; omega; omega
      cases hR : numsR b most with
      | none =>
        go_upto_region 11 with (go_at_call 19; refine (fnums_any _ b most _ HC7.ow.sl B0 (by omega)).mono ?_; rintro e V8 ⟨hnp, hb8⟩; obtain rfl := hnp.none hR; clear hnp)
        go_upto_region 12 with (go_at_call 20; refine (fr_nums_any _ b most _ (S07.keep hb8) B0 (by omega)).mono ?_; rintro e V9 ⟨hnp, hb9⟩; obtain rfl := hnp.none hR; clear hnp)
        have hb79 := ab_trans hb8 hb9
        go_upto_region 14 with (first
          | (go_at_call 15; refine (ints_same _ _ [] _ (is_nil _) (is_nil _) (by simp)).mono ?_; rintro e V10 ⟨rfl, hb10⟩)
          | (go_at_call 14; refine (kept_any _ _ b V3.heap.size _ (HC7.keep (ab_trans hb79 hb10)) (S07.keep (ab_trans hb79 hb10)) (by omega)).mono ?_; rintro e V11 ⟨rfl, rfl⟩))
        have hb710 := ab_trans hb79 hb10
        go_wp2_with (first
          | (refine bs_ls rfl rfl [Value.slice q5 n5 c5, .slice (some ⟨g4, 0, none⟩) nb cap4] [b.drop sz, b] (by simp only [List.map_toArray, List.map_cons, List.map_nil]; rfl) (bsl2 _ _ _ _ _ _ _) rfl (by decide) rfl (each2 (HO7.sl.keep hb710) (HC7.ow.sl.keep hb710)) ?_; intro V12 hls12 hb12 hbk12)
          | (go_at_call 16; refine (apart_new V3 _ _ _ _ 2 (ab_trans hb37 hb710) (HBag.out _ hb710) hbk12 hb12 rfl (by omega) HL2.out).mono ?_; rintro e V13 ⟨rfl, hb13⟩))
        all_goals (go_ret; exact ⟨rfl, ab_trans hbV hb13⟩)
      | some r =>
        have hrl := HRL.out r hR
        go_upto_region 11 with (go_at_call 19; refine (fnums_any _ b most _ HC7.ow.sl B0 (by omega)).mono ?_; rintro e V8 ⟨hnp, hb8⟩; obtain ⟨v8, rfl, HI8⟩ := hnp.some r hR; clear hnp)
        go_upto_region 12 with (go_at_call 20; refine (fr_nums_any _ b most _ (S07.keep hb8) B0 (by omega)).mono ?_; rintro e V9 ⟨hnp, hb9⟩; obtain ⟨v9, rfl, HI9⟩ := hnp.some r hR; clear hnp)
        have hb79 := ab_trans hb8 hb9
        go_upto_region 14 with (first
          | (go_at_call 15; refine (ints_same _ _ r _ (HI8.keep hb9).is HI9.is (by omega)).mono ?_; rintro e V10 ⟨rfl, hb10⟩)
          | (go_at_call 14; refine (kept_any _ _ b V3.heap.size _ (HC7.keep (ab_trans hb79 hb10)) (S07.keep (ab_trans hb79 hb10)) (by omega)).mono ?_; rintro e V11 ⟨rfl, rfl⟩))
        have hb710 := ab_trans hb79 hb10
        go_wp2_with (first
          | (refine bs_ls rfl rfl [Value.slice q5 n5 c5, .slice (some ⟨g4, 0, none⟩) nb cap4] [b.drop sz, b] (by simp only [List.map_toArray, List.map_cons, List.map_nil]; rfl) (bsl2 _ _ _ _ _ _ _) rfl (by decide) rfl (each2 (HO7.sl.keep hb710) (HC7.ow.sl.keep hb710)) ?_; intro V12 hls12 hb12 hbk12)
          | (go_at_call 16; refine (apart_new V3 _ _ _ _ 2 (ab_trans hb37 hb710) (HBag.out _ hb710) hbk12 hb12 rfl (by omega) HL2.out).mono ?_; rintro e V13 ⟨rfl, hb13⟩))
        all_goals (go_ret; exact ⟨rfl, ab_trans hbV hb13⟩)

theorem own : ownKnob Try.prog.godebug = none := by kernel_rfl
theorem laidOut : laidOutB Try.prog = true := by kernel_rfl

set_option maxRecDepth 100000 in
theorem lifted (os : Os) (started : os.Started) (H : Type) (enc : TypeId × Value → H) :
    ReturnsInHanded {} Try.checked os 4 .any (Rows.frameTakesSpec.pre6 enc Try.prog Try.f4 Rows.frameTakesRow.domain false) (Rows.frameTakesSpec.post enc Try.prog Try.f4 false true false false) := by
  refine returnsInHanded_of_change (C := Try.checked) own started (by kernel_rfl) Try.func4
    (ChangeSpec.witness6 (enc := enc) (C := Try.checked) false ⟨#[], #[.slice none 0 0, .int .i64 0], []⟩ 8 (by kernel_rfl) (by kernel_rfl) (by kernel_rfl) (by kernel_rfl)) ?_
  intro W base args ds gs before hval0 hW hcnd _
  have hval : ∀ (j : Nat) t v, Try.f4.params[j]? = some t → args[j]? = some v → Value.okWide Try.prog W .any base t v := hval0
  have hW' := hW
  obtain ⟨p, q, hA0, hV, rfl, hfz, hnd⟩ := hW
  have hA : DataW.TrodAll enc Try.prog W 0 (fun _ => true) true Try.f4.params.toList args.toList ds p := hA0
  rw [Try.params4] at hA hval
  obtain ⟨v0, vs0, d0, ds0, p0, q0, hargs, rfl, rfl, h0, r0⟩ := trodAll_cons hA
  obtain ⟨v1, vs1, d1, ds1, p1, q1, rfl, rfl, rfl, h1, r1⟩ := trodAll_cons r0
  obtain ⟨rfl, rfl, rfl⟩ := trodAll_nil r1
  obtain rfl : args = #[v0, v1] := by cases args; simp_all
  obtain ⟨rfl, rfl⟩ := trodVars_none hV
  have k0 := h0
  have lt0 : ∀ x ∈ p0, x.block < W.heap.size := by obtain ⟨m, hm⟩ := k0; exact DataW.trod_lt m _ _ _ hm
  have k1 := h1
  have lt1 : ∀ x ∈ p1, x.block < W.heap.size := by obtain ⟨m, hm⟩ := k1; exact DataW.trod_lt m _ _ _ hm
  obtain ⟨l0_, S0_, B0_⟩ := open_bytes (hval 0 22 v0 rfl rfl) h0
  obtain ⟨a1, rfl, rfl, rfl, w1⟩ := open_int Try.underlying3 (hval 1 3 v1 rfl rfl) h1
  clear hA0 hval0
  refine (walk v0 l0_ S0_ B0_ a1 (bounds_i64 w1)).mono fun e W' ⟨he, bel⟩ => ?_
  subst he
  exact ⟨_, rfl, _, _, _, [], _, [], hW', trodAll_mk1 (shut_bool Try.underlying4 _), (trodAll_cons_mk (Below.trod laidOut (by kernel_rfl) (of_decide_eq_true (by kernel_rfl)) k0 bel lt0) (trodAll_cons_mk (Below.trod laidOut (by kernel_rfl) (of_decide_eq_true (by kernel_rfl)) k1 bel lt1) trodAll_mk0)), rfl, bel.frame _, fun h => by cases h⟩

theorem over : Rows.frameTakesRow.holds Try.pinned (OpenSpec.ofChange Rows.frameTakesSpec) :=
  OpenClaim.holds_of_wide 4 Try.f4 rfl rfl rfl rfl rfl rfl rfl ⟨rfl, rfl, rfl, rfl, rfl⟩ rfl rfl rfl rfl rfl (by kernel_rfl) Try.func4 (by kernel_rfl)
    (of_decide_eq_true (by kernel_rfl)) (by unfold Func.isWrapper; first | (rw [if_pos (by decide +kernel)]; kernel_rfl) | (rw [if_neg (by decide +kernel)]; exact ⟨rfl, rfl⟩))
    (fun os started H enc _ => lifted os started H enc)

theorem proved : Rows.FrameTakesSaid := over
end Go.Proofs.Ytgimkaklocmhkaa.frameTakes
namespace Go.Proofs.Ytgimkaklocmhkaa
theorem frameTakes_holds : Rows.FrameTakesSaid := frameTakes.proved
#print axioms frameTakes_holds
end Go.Proofs.Ytgimkaklocmhkaa
