/-
  What frames there are, and which frame any bytes begin with: estuarylaw04.FrameWraps returns true for every input; no condition.
-/
import Derived.Test.YtgimkaklocmhkaaFrE
import Derived.Test.YtgimkaklocmhkaaFrU
import Derived.Test.YtgimkaklocmhkaaFrW
import Derived.Test.YtgimkaklocmhkaaFrQ
import Derived.Test.YtgimkaklocmhkaaFrL
import Derived.ProofKit
import Derived.OpenShut
import Derived.ChangeOld
import Derived.Below
import Derived.Lib.SmallJoins
namespace Go.Proofs.Ytgimkaklocmhkaa.frameWraps
open Go.ChangeShapes Go.WideShapes Go.ChangeAt Go.RowKit Go.Joins
set_option linter.unusedVariables false

theorem flat2l (a b : List Nat) : [a, b].flatten = a ++ b := by simp
theorem all2 {a b : List Nat} (ha : Byt a) (hb : Byt b) : ∀ l ∈ [a, b], Byt l := by
  intro l hl; simp at hl; rcases hl with rfl | rfl <;> assumption
theorem bsl5 (q1 : Option Addr) (n1 c1 : Nat) (q2 : Option Addr) (n2 c2 : Nat) (q3 : Option Addr) (n3 c3 : Nat) (q4 : Option Addr) (n4 c4 : Nat) (q5 : Option Addr) (n5 c5 : Nat) (w : World) :
    (Instr.buildSlice 32 5 #[(0, .slice q1 n1 c1), (1, .slice q2 n2 c2), (2, .slice q3 n3 c3), (3, .slice q4 n4 c4), (4, .slice q5 n5 c5)]).run Try.prog w =
      .ok (.slice (some ⟨w.heap.size, 0, none⟩) 5 5) (w.alloc (.cells #[.slice q1 n1 c1, .slice q2 n2 c2, .slice q3 n3 c3, .slice q4 n4 c4, .slice q5 n5 c5] 22)) := by kernel_rfl
/-- A slice of bytes that is the call's own or nil, and its form. -/
structure Pc (W : World) (base : Nat) (q : Option Addr) (n c : Nat) (l : List Nat) : Prop where
  own : Ow W base (.slice q n c) l
  len : l.length ≤ 100000
theorem bagSl {W : World} {base : Nat} {vs : List Value} {ls : List (List Nat)} (h : Bag W base vs ls) : ∀ (j : Nat) (x : Value) (l : List Nat), vs[j]? = some x → ls[j]? = some l → Sl W x l := fun j x l h1 h2 => (h.own j x l h1 h2).sl
theorem bag5 {V4 V5 Vf W1 V : World} {b3 bf bi br : Nat} {x y f i r : Value} {Lx Ly Lf Li Lr : List Nat} (hx : Ow V4 b3 x Lx) (hy : Ow V5 V4.heap.size y Ly) (hf : Ow Vf bf f Lf) (hi : Ow W1 bi i Li) (hr : Ow V br r Lr)
    (h34 : b3 ≤ V4.heap.size) (h45 : Below V4.heap.size V4 V5) (b5f : Below V5.heap.size V5 Vf) (bf1 : Below Vf.heap.size Vf W1) (b1v : Below W1.heap.size W1 V) (h5f : V5.heap.size ≤ bf) (hfi : Vf.heap.size ≤ bi) (hir : W1.heap.size ≤ br) : Bag V b3 [f, i, r, x, y] [Lf, Li, Lr, Lx, Ly] := by
  have s45 := h45.size
  have s5f := b5f.size
  have sf1 := bf1.size
  have s1v := b1v.size
  have B1 : Bag V b3 [f] [Lf] := bag1 ((hf.keep (ab_trans bf1 b1v)).less (by omega))
  have B2 : Bag V b3 [f, i] [Lf, Li] := bag_snoc B1 ((hi.keep b1v).less (by omega)) (fun z hz => by simp at hz; subst hz; exact sep_new hf hi hfi)
  have B3 : Bag V b3 [f, i, r] [Lf, Li, Lr] := bag_snoc B2 (hr.less (by omega)) (fun z hz => by
    simp at hz
    rcases hz with rfl | rfl
    · exact sep_new hf hr (by omega)
    · exact sep_new hi hr hir)
  have B4 : Bag V b3 [f, i, r, x] [Lf, Li, Lr, Lx] := bag_snoc B3 (hx.keep (ab_trans h45 (ab_trans b5f (ab_trans bf1 b1v)))) (fun z hz => by
    simp at hz
    rcases hz with rfl | rfl | rfl
    · exact (sep_new hx hf (by omega)).symm
    · exact (sep_new hx hi (by omega)).symm
    · exact (sep_new hx hr (by omega)).symm)
  exact bag_snoc B4 ((hy.keep (ab_trans b5f (ab_trans bf1 b1v))).less h34) (fun z hz => by
    simp at hz
    rcases hz with rfl | rfl | rfl | rfl
    · exact (sep_new hy hf h5f).symm
    · exact (sep_new hy hi (by omega)).symm
    · exact (sep_new hy hr (by omega)).symm
    · exact sep_new hx hy (Nat.le_refl _))
set_option maxRecDepth 100000 in
set_option maxHeartbeats 2000000 in
theorem walk {W : World} (v0 : Value) (a : List Nat) (S0 : Sl W v0 a) (B0 : Byt a) (v1 : Value) (b : List Nat) (S1 : Sl W v1 b) (B1 : Byt b) :
    Calls Try.prog 5 #[v0, v1] W fun e w' => e = .returned (.bool true) ∧ Below W.heap.size W w' := by
  obtain ⟨q0, c0, e0, -⟩ := id S0
  subst e0
  obtain ⟨q1, c1, e1, -⟩ := id S1
  subst e1
  go_enter Try.func5, Try.ntmps5
  go_upto_region 3 with (go_at_call 9; refine (alive4_any _).mono ?_; rintro e V1 ⟨rfl, hb1⟩)
  have S01 := S0.keep hb1
  have S11 := S1.keep hb1
  go_wp2_with (refine bs_ls rfl rfl [_, _] [a, b] (by simp only [List.map_toArray, List.map_cons, List.map_nil]; rfl) (bsl2 _ _ _ _ _ _ _) rfl (by decide) rfl (each2 S01 S11) ?_; intro V2 hls2 hb2 hbk2)
  refine (large_any _ _ _ _ hls2).mono ?_
  rintro e V3 ⟨⟨r, rfl, hr⟩, rfl⟩
  have hbV := ab_trans hb1 hb2
  clear hls2 hbk2 hb1 hb2 S01 S11
  cases r with
  | true =>
    go_wp2_with fail
    go_ret
    exact ⟨rfl, hbV⟩
  | false =>
    obtain ⟨-, htot⟩ := hr rfl
    have HF2 : Hid ([a, b].flatten = a ++ b) := flat2l a b
    rw [HF2.out, List.length_append] at htot
    have HA2 : Hid (∀ l ∈ [a, b], Byt l) := all2 B0 B1
    have HAB : Hid (Byt (a ++ b)) := B0.append B1
    have HH2 : Hid (∀ l ∈ [a, b], l.length ≤ 100000) := by intro l hl; simp at hl; rcases hl with rfl | rfl <;> omega
    have HLab : Hid ((a ++ b).length = a.length + b.length) := List.length_append
    clear hr
    generalize hna : a.length = na at *
    generalize hnb : b.length = nb at *
    go_wp2_with fail
    refine (copy_any _ a _ (S0.keep hbV) (by omega)).mono ?_
    rintro e V4 ⟨v4, rfl, HC4, hb4⟩
    go_wp2_with fail
    refine (copy_any _ b _ (S1.keep (ab_trans hbV hb4)) (by omega)).mono ?_
    rintro e V5 ⟨v5, rfl, HC5, hb5⟩
    obtain ⟨g4, cap4, e4, -⟩ := id HC4
    rw [hna] at e4
    subst e4
    obtain ⟨g5, cap5, e5, -⟩ := id HC5
    rw [hnb] at e5
    subst e5
    have HC45 := HC4.keep hb5
    have hb35 := ab_trans hb4 hb5
    have S05 := S0.keep (ab_trans hbV hb35)
    have S15 := S1.keep (ab_trans hbV hb35)
    go_upto_region 6 with fail
    by_cases hbig : na + nb ≤ 16376
    · have hz : ((0 : Int) != 0) = false := by simp
      go_upto_region 7 with (first
        | (refine bs_ls rfl rfl [_, _] [a, b] (by simp only [List.map_toArray, List.map_cons, List.map_nil]; rfl) (bsl2 _ _ _ _ _ _ _) rfl (by decide) rfl (each2 HC45.ow.sl HC5.ow.sl) ?_; intro V6 hls6 hb6 hbk6)
        | (go_at_call 21; refine (wrap_ok _ _ _ _ hls6 HA2.out (by rw [HF2.out, HLab.out]; exact hbig)).mono ?_; rw [HF2.out]; rintro e V7 ⟨v7, rfl, HO7, hn7, hb7⟩))
      have hb57 := ab_trans hb6 hb7
      obtain ⟨qf, cf, ef⟩ := HO7.form
      go_upto_region 8 with (first
        | (refine bs_by rfl rfl [] (vs := #[]) (by simp) (bsb0 _) rfl (by decide) ?_; intro V8 hN8 hb8 z8)
        | (at_builtin; refine app_by V7 rfl rfl rfl hN8 rfl (S05.keep (ab_trans hb57 hb8)) hna (by omega) hb8 ?_; intro v9 V9 hown9 hnil9 hb9 hgr9 hat9)
        | (at_builtin; refine app_by V7 rfl rfl rfl hown9 rfl (S15.keep (ab_trans hb57 hb9)) hnb (by omega) hb9 ?_; intro v10 V10 hown10 hnil10 hb10 hgr10 hat10)
        | (go_at_call 22; refine (rwrap_ok _ (a ++ b) _ (ow_of hown10).sl HAB.out (by rw [HLab.out]; exact hbig)).mono ?_; rintro e V11 ⟨v11, rfl, HO11, hb11⟩))
      have hb711 := ab_trans hb10 hb11
      have HO7b := HO7.keep hb711
      have hcf := sl_str HO7b.sl
      have hcw := sl_str HO11.sl
      subst ef
      have hbF1 := ab_trans hb57 hb711
      clear hown9 hnil9 hgr9 hat9 hown10 hnil10 hgr10 hat10 hN8 z8 hls6 hbk6
      go_upto_region 10 with (first
        | (go_at_call 23; refine (num_nil _).mono ?_; rintro e V12 ⟨rfl, rfl⟩)
        | (refine bs_ls rfl rfl [_, _] [a, b] (by simp only [List.map_toArray, List.map_cons, List.map_nil]; rfl) (bsl2 _ _ _ _ _ _ _) rfl (by decide) rfl (each2 (HC45.ow.sl.keep hbF1) (HC5.ow.sl.keep hbF1)) ?_; intro V13 hls13 hb13 hbk13)
        | (go_at_call 24; refine (sum_any _ _ _ _ hls13 HA2.out).mono ?_; rw [HF2.out]; rintro e V14 ⟨rfl, rfl⟩)
        | (refine bs_by rfl rfl [] (vs := #[]) (by simp) (bsb0 _) rfl (by decide) ?_; intro V15 hN15 hb15 z15)
        | (at_builtin; refine app_by _ rfl rfl rfl hN15 rfl (S05.keep (ab_trans hbF1 (ab_trans hb13 hb15))) hna (by omega) hb15 ?_; intro v16 V16 hown16 hnil16 hb16 hgr16 hat16)
        | (at_builtin; refine app_by _ rfl rfl rfl hown16 rfl (S15.keep (ab_trans hbF1 (ab_trans hb13 hb16))) hnb (by omega) hb16 ?_; intro v17 V17 hown17 hnil17 hb17 hgr17 hat17)
        | (go_at_call 25; refine (rsum_any _ (a ++ b) _ (ow_of hown17).sl HAB.out).mono ?_; rintro e VF ⟨rfl, hb18⟩))
      have hbS := ab_trans hb13 (ab_trans hb17 hb18)
      have b5f := ab_trans hbF1 hbS
      clear hown16 hnil16 hgr16 hat16 hown17 hnil17 hgr17 hat17 hN15 z15 hls13 hbk13 hcf hcw
      have HFf : Ow VF V6.heap.size (.slice qf (frm (a ++ b)).length cf) (frm (a ++ b)) := HO7.keep (ab_trans hb711 hbS)
      have h5f : V5.heap.size ≤ V6.heap.size := hb6.size
      have HLF : (frm (a ++ b)).length ≤ 110000 := by rw [frm_len, HLab.out]; omega
      have HCx := HC45.keep b5f
      have S0f := S0.keep (ab_trans hbV (ab_trans hb35 b5f))
      have h33 := ne33
      have h00 := ne00
      cases hok : insOK a with
      | false =>
        go_upto_region 11 with (go_at_call 26; refine (unwrap_no _ a _ HCx.ow.sl B0 hok).mono ?_; rintro e W1 ⟨rfl, bf1⟩)
        go_upto_region 12 with (go_at_call 27; refine (runwrap_any _ a _ (S0f.keep bf1) B0 (by omega)).mono ?_; rintro e VB ⟨hup, hbb⟩; obtain rfl := hup.no hok; clear hup)
        refine wp_region_below (by kernel_rfl) (by kernel_rfl) ?_
        have HZ := cls_some VB
        repeat (go_big_quiet_step (fail))
        refine wpQuiet_nil ?_
        rintro _ ⟨y, rfl⟩
        obtain ⟨VC, hbc⟩ := y
        dsimp only
        have b1v := ab_trans hbb hbc
        have HIi : Ow W1 VF.heap.size (.slice none 0 0) [] := World.ownsRow_nil W1 _ _ _
        have HRr : Ow VC W1.heap.size (.slice none 0 0) [] := World.ownsRow_nil VC _ _ _
        have hfi : VF.heap.size ≤ VF.heap.size := Nat.le_refl _
        have hir : W1.heap.size ≤ W1.heap.size := Nat.le_refl _
        have HLI : ([] : List Nat).length ≤ 110000 := by simp
        have HLR : ([] : List Nat).length ≤ 110000 := by simp
        have HBg := bag5 HC4.ow HC5.ow HFf HIi HRr hb4.size hb5 b5f bf1 b1v h5f hfi hir
        have HBag : Hid (Bag VC V3.heap.size [.slice qf (frm (a ++ b)).length cf, .slice none 0 0, .slice none 0 0, .slice (some ⟨g4, 0, none⟩) na cap4, .slice (some ⟨g5, 0, none⟩) nb cap5] [frm (a ++ b), [], [], a, b]) := HBg
        have hbC := ab_trans hb35 (ab_trans b5f (ab_trans bf1 b1v))
        have HLn : Hid (∀ l ∈ [frm (a ++ b), [], [], a, b], l.length ≤ 110000) := by
          intro l hl
          simp only [List.mem_cons, List.not_mem_nil, or_false] at hl
          rcases hl with rfl | rfl | rfl | rfl | rfl
          · exact HLF
          · exact HLI
          · exact HLR
          · omega
          · omega
        have b5C := ab_trans b5f (ab_trans bf1 b1v)
        clear HBg
        go_wp2_with fail
        refine (kept_any _ _ a V3.heap.size _ (HC45.keep b5C) (S05.keep b5C) (by omega)).mono ?_
        rintro e VD ⟨rfl, rfl⟩
        go_wp2_with fail
        refine (kept_any _ _ b V4.heap.size _ (HC5.keep b5C) (S15.keep b5C) (by omega)).mono ?_
        rintro e VE ⟨rfl, rfl⟩
        go_wp2_with (first
          | (refine bs_ls rfl rfl [.slice qf (frm (a ++ b)).length cf, .slice none 0 0, .slice none 0 0, .slice (some ⟨g4, 0, none⟩) na cap4, .slice (some ⟨g5, 0, none⟩) nb cap5] [frm (a ++ b), [], [], a, b] (by simp only [List.map_toArray, List.map_cons, List.map_nil]; rfl) (bsl5 _ _ _ _ _ _ _ _ _ _ _ _ _ _ _ _) rfl (by decide) rfl (bagSl HBag.out) ?_; intro V30 hls30 hb30 hbk30)
          | (go_at_call 16; refine (apart_new V3 _ _ _ _ 5 hbC HBag.out hbk30 hb30 rfl (by omega) HLn.out).mono ?_; rintro e V31 ⟨rfl, hb31⟩))
        all_goals (go_ret; exact ⟨rfl, ab_trans hbV hb31⟩)
      | true =>
        have hile := insB_le hok
        rw [hna] at hile
        have HUP : Hid (∀ W, Sl W (.slice q0 na c0) a → Calls Try.prog 27 #[.slice q0 na c0] W fun e w' => ∃ v', e = .returned (.tuple #[v', .int .i64 ((8 + (insB a).length : Nat) : Int)]) ∧ Ow w' W.heap.size v' (insB a) ∧ Below W.heap.size W w') := fun W h => (runwrap_any _ _ W h B0 (by omega)).mono fun e w' ⟨h1, h2⟩ => by
          obtain ⟨v', h3, h4⟩ := h1.ok hok
          exact ⟨v', h3, h4, h2⟩
        have HUO : Hid (∀ W, Sl W (.slice (some ⟨g4, 0, none⟩) na cap4) a → Calls Try.prog 26 #[.slice (some ⟨g4, 0, none⟩) na cap4] W fun e w' => ∃ v1 v2 W1, e = .returned (.tuple #[v1, v2, .nilIface]) ∧ Below W.heap.size W W1 ∧ Ow W1 W.heap.size v1 (insB a) ∧ Ow w' W1.heap.size v2 (a.drop (8 + (insB a).length)) ∧ Below W1.heap.size W1 w') := fun W h => unwrap_ok _ a W h B0 (by omega) hok
        have HDL : Hid ((a.drop (8 + (insB a).length)).length = na - (8 + (insB a).length)) := by show _ = _; rw [List.length_drop, hna]
        generalize hI : insB a = I at *
        generalize hsz : 8 + I.length = sz at *
        clear hok
        go_upto_region 11 with (go_at_call 26; refine (HUO.out _ HCx.ow.sl).mono ?_; rintro e VA ⟨vi, vr, W1, rfl, bf1, HIi, HRA, hba⟩)
        go_upto_region 12 with (go_at_call 27; refine (HUP.out _ (S0f.keep (ab_trans bf1 hba))).mono ?_; rintro e VB ⟨vu, rfl, HOu, hbb⟩)
        obtain ⟨qi, ci, ei⟩ := HIi.form
        subst ei
        obtain ⟨qr, cr, er⟩ := HRA.form
        rw [HDL.out] at er
        subst er
        obtain ⟨qu, cu, eu⟩ := HOu.form
        subst eu
        have SB := S0f.keep (ab_trans bf1 (ab_trans hba hbb))
        have hcap := SB.len.2.1
        have hszi : ((sz : Int) == 0) = false := by simp; omega
        have hszp : (0 : Int) < (sz : Int) := by omega
        have hszd : decide ((0 : Int) < (sz : Int)) = true := decide_eq_true hszp
        have hszn : decide (0 < sz) = true := decide_eq_true (by omega)
        have HTK : Hid ((a.drop sz).take (na - sz) = a.drop sz) := by show _ = _; rw [List.take_of_length_le (by rw [List.length_drop]; omega)]
        have hszle : sz ≤ na := by omega
        obtain ⟨q9, e9⟩ := sliced_form q0 sz na c0
        have s9 := SB.sub hszle (Nat.le_refl _) (Nat.le_refl _) hcap e9.symm
        rw [HTK.out] at s9
        have cv4 : ∀ y : Cls VB, (convert 22 9 (.slice q9 (na - sz) (c0 - sz))).run Try.prog y.val = .ok (.string (strB (a.drop sz))) y.val := fun y => sl_str (s9.keep y.prop)
        have sI := (HIi.keep (ab_trans hba hbb)).sl
        have sR := (HRA.keep hbb).sl
        have cv1 : ∀ y : Cls VB, (convert 22 9 (.slice qi I.length ci)).run Try.prog y.val = .ok (.string (strB I)) y.val := fun y => sl_str (sI.keep y.prop)
        have cv2 : ∀ y : Cls VB, (convert 22 9 (.slice qu I.length cu)).run Try.prog y.val = .ok (.string (strB I)) y.val := fun y => sl_str (HOu.sl.keep y.prop)
        have cv3 : ∀ y : Cls VB, (convert 22 9 (.slice qr (na - sz) cr)).run Try.prog y.val = .ok (.string (strB (a.drop sz))) y.val := fun y => sl_str (sR.keep y.prop)
        refine wp_region_below (by kernel_rfl) (by kernel_rfl) ?_
        have HZ := cls_some VB
        repeat (go_big_quiet_step (fail))
        refine quiet_val rfl (.string (strB (a.drop sz))) (fun w' hC => by
          obtain ⟨yy, rfl⟩ := hC
          refine cv_run (x := .tmp 112) rfl rfl ?_
          rw [← HTK.out]
          refine (SB.sub hszle (Nat.le_refl _) (Nat.le_refl _) hcap ?_).keep yy.prop
          first
            | rfl
            | (simp only [sliced, Nat.mul_one]; rfl)) ?_
        go_frame
        repeat (go_big_quiet_step (fail))
        refine wpQuiet_nil ?_
        rintro _ ⟨y, rfl⟩
        obtain ⟨VC, hbc⟩ := y
        dsimp only
        try generalize (if c0 = sz then q0 else _) = qz
        have b1v := ab_trans hba (ab_trans hbb hbc)
        have HRr := (HRA.keep hbb).keep hbc
        have hfi : VF.heap.size ≤ VF.heap.size := Nat.le_refl _
        have hir : W1.heap.size ≤ W1.heap.size := Nat.le_refl _
        have HLI : I.length ≤ 110000 := by omega
        have HLR : (a.drop sz).length ≤ 110000 := by rw [List.length_drop]; omega
        clear cv1 cv2 cv3 cv4 HZ
        have HBg := bag5 HC4.ow HC5.ow HFf HIi HRr hb4.size hb5 b5f bf1 b1v h5f hfi hir
        have HBag : Hid (Bag VC V3.heap.size [.slice qf (frm (a ++ b)).length cf, .slice qi I.length ci, .slice qr (na - sz) cr, .slice (some ⟨g4, 0, none⟩) na cap4, .slice (some ⟨g5, 0, none⟩) nb cap5] [frm (a ++ b), I, a.drop sz, a, b]) := HBg
        have hbC := ab_trans hb35 (ab_trans b5f (ab_trans bf1 b1v))
        have HLn : Hid (∀ l ∈ [frm (a ++ b), I, a.drop sz, a, b], l.length ≤ 110000) := by
          intro l hl
          simp only [List.mem_cons, List.not_mem_nil, or_false] at hl
          rcases hl with rfl | rfl | rfl | rfl | rfl
          · exact HLF
          · exact HLI
          · exact HLR
          · omega
          · omega
        have b5C := ab_trans b5f (ab_trans bf1 b1v)
        clear HBg
        go_wp2_with fail
        refine (kept_any _ _ a V3.heap.size _ (HC45.keep b5C) (S05.keep b5C) (by omega)).mono ?_
        rintro e VD ⟨rfl, rfl⟩
        go_wp2_with fail
        refine (kept_any _ _ b V4.heap.size _ (HC5.keep b5C) (S15.keep b5C) (by omega)).mono ?_
        rintro e VE ⟨rfl, rfl⟩
        go_wp2_with (first
          | (refine bs_ls rfl rfl [.slice qf (frm (a ++ b)).length cf, .slice qi I.length ci, .slice qr (na - sz) cr, .slice (some ⟨g4, 0, none⟩) na cap4, .slice (some ⟨g5, 0, none⟩) nb cap5] [frm (a ++ b), I, a.drop sz, a, b] (by simp only [List.map_toArray, List.map_cons, List.map_nil]; rfl) (bsl5 _ _ _ _ _ _ _ _ _ _ _ _ _ _ _ _) rfl (by decide) rfl (bagSl HBag.out) ?_; intro V30 hls30 hb30 hbk30)
          | (go_at_call 16; refine (apart_new V3 _ _ _ _ 5 hbC HBag.out hbk30 hb30 rfl (by omega) HLn.out).mono ?_; rintro e V31 ⟨rfl, hb31⟩))
        all_goals (go_ret; exact ⟨rfl, ab_trans hbV hb31⟩)
    · go_upto_region 7 with (first
        | (refine bs_ls rfl rfl [_, _] [a, b] (by simp only [List.map_toArray, List.map_cons, List.map_nil]; rfl) (bsl2 _ _ _ _ _ _ _) rfl (by decide) rfl (each2 HC45.ow.sl HC5.ow.sl) ?_; intro V6 hls6 hb6 hbk6)
        | (go_at_call 21; refine (wrap_no _ _ _ _ hls6 HH2.out (by rw [HF2.out, HLab.out]; omega)).mono ?_; rintro e V7 ⟨rfl, hb7⟩))
      have hb57 := ab_trans hb6 hb7
      go_upto_region 8 with (first
        | (refine bs_by rfl rfl [] (vs := #[]) (by simp) (bsb0 _) rfl (by decide) ?_; intro V8 hN8 hb8 z8)
        | (at_builtin; refine app_by V7 rfl rfl rfl hN8 rfl (S05.keep (ab_trans hb57 hb8)) hna (by omega) hb8 ?_; intro v9 V9 hown9 hnil9 hb9 hgr9 hat9)
        | (at_builtin; refine app_by V7 rfl rfl rfl hown9 rfl (S15.keep (ab_trans hb57 hb9)) hnb (by omega) hb9 ?_; intro v10 V10 hown10 hnil10 hb10 hgr10 hat10)
        | (go_at_call 22; refine (rwrap_no _ (a ++ b) _ (ow_of hown10).sl (by rw [HLab.out]; omega)).mono ?_; rintro e V11 ⟨rfl, hb11⟩))
      have hb711 := ab_trans hb10 hb11
      have hcf := sl_str (sl_nil V11)
      have hbF1 := ab_trans hb57 hb711
      clear hown9 hnil9 hgr9 hat9 hown10 hnil10 hgr10 hat10 hN8 z8 hls6 hbk6
      go_upto_region 10 with (first
        | (go_at_call 23; refine (num_err 7 (by decide) _).mono ?_; rintro e V12 ⟨rfl, rfl⟩)
        | (refine bs_ls rfl rfl [_, _] [a, b] (by simp only [List.map_toArray, List.map_cons, List.map_nil]; rfl) (bsl2 _ _ _ _ _ _ _) rfl (by decide) rfl (each2 (HC45.ow.sl.keep hbF1) (HC5.ow.sl.keep hbF1)) ?_; intro V13 hls13 hb13 hbk13)
        | (go_at_call 24; refine (sum_any _ _ _ _ hls13 HA2.out).mono ?_; rw [HF2.out]; rintro e V14 ⟨rfl, rfl⟩)
        | (refine bs_by rfl rfl [] (vs := #[]) (by simp) (bsb0 _) rfl (by decide) ?_; intro V15 hN15 hb15 z15)
        | (at_builtin; refine app_by _ rfl rfl rfl hN15 rfl (S05.keep (ab_trans hbF1 (ab_trans hb13 hb15))) hna (by omega) hb15 ?_; intro v16 V16 hown16 hnil16 hb16 hgr16 hat16)
        | (at_builtin; refine app_by _ rfl rfl rfl hown16 rfl (S15.keep (ab_trans hbF1 (ab_trans hb13 hb16))) hnb (by omega) hb16 ?_; intro v17 V17 hown17 hnil17 hb17 hgr17 hat17)
        | (go_at_call 25; refine (rsum_any _ (a ++ b) _ (ow_of hown17).sl HAB.out).mono ?_; rintro e VF ⟨rfl, hb18⟩))
      have hbS := ab_trans hb13 (ab_trans hb17 hb18)
      have b5f := ab_trans hbF1 hbS
      clear hown16 hnil16 hgr16 hat16 hown17 hnil17 hgr17 hat17 hN15 z15 hls13 hbk13 hcf
      have HFf : Ow VF V5.heap.size (.slice none 0 0) [] := World.ownsRow_nil VF _ _ _
      have h5f : V5.heap.size ≤ V5.heap.size := Nat.le_refl _
      have HLF : ([] : List Nat).length ≤ 110000 := by simp
      have HCx := HC45.keep b5f
      have S0f := S0.keep (ab_trans hbV (ab_trans hb35 b5f))
      have h33 := ne33
      have h00 := ne00
      cases hok : insOK a with
      | false =>
        go_upto_region 11 with (go_at_call 26; refine (unwrap_no _ a _ HCx.ow.sl B0 hok).mono ?_; rintro e W1 ⟨rfl, bf1⟩)
        go_upto_region 12 with (go_at_call 27; refine (runwrap_any _ a _ (S0f.keep bf1) B0 (by omega)).mono ?_; rintro e VB ⟨hup, hbb⟩; obtain rfl := hup.no hok; clear hup)
        refine wp_region_below (by kernel_rfl) (by kernel_rfl) ?_
        have HZ := cls_some VB
        repeat (go_big_quiet_step (fail))
        refine wpQuiet_nil ?_
        rintro _ ⟨y, rfl⟩
        obtain ⟨VC, hbc⟩ := y
        dsimp only
        have b1v := ab_trans hbb hbc
        have HIi : Ow W1 VF.heap.size (.slice none 0 0) [] := World.ownsRow_nil W1 _ _ _
        have HRr : Ow VC W1.heap.size (.slice none 0 0) [] := World.ownsRow_nil VC _ _ _
        have hfi : VF.heap.size ≤ VF.heap.size := Nat.le_refl _
        have hir : W1.heap.size ≤ W1.heap.size := Nat.le_refl _
        have HLI : ([] : List Nat).length ≤ 110000 := by simp
        have HLR : ([] : List Nat).length ≤ 110000 := by simp
        have HBg := bag5 HC4.ow HC5.ow HFf HIi HRr hb4.size hb5 b5f bf1 b1v h5f hfi hir
        have HBag : Hid (Bag VC V3.heap.size [.slice none 0 0, .slice none 0 0, .slice none 0 0, .slice (some ⟨g4, 0, none⟩) na cap4, .slice (some ⟨g5, 0, none⟩) nb cap5] [[], [], [], a, b]) := HBg
        have hbC := ab_trans hb35 (ab_trans b5f (ab_trans bf1 b1v))
        have HLn : Hid (∀ l ∈ [[], [], [], a, b], l.length ≤ 110000) := by
          intro l hl
          simp only [List.mem_cons, List.not_mem_nil, or_false] at hl
          rcases hl with rfl | rfl | rfl | rfl | rfl
          · exact HLF
          · exact HLI
          · exact HLR
          · omega
          · omega
        have b5C := ab_trans b5f (ab_trans bf1 b1v)
        clear HBg
        go_wp2_with fail
        refine (kept_any _ _ a V3.heap.size _ (HC45.keep b5C) (S05.keep b5C) (by omega)).mono ?_
        rintro e VD ⟨rfl, rfl⟩
        go_wp2_with fail
        refine (kept_any _ _ b V4.heap.size _ (HC5.keep b5C) (S15.keep b5C) (by omega)).mono ?_
        rintro e VE ⟨rfl, rfl⟩
        go_wp2_with (first
          | (refine bs_ls rfl rfl [.slice none 0 0, .slice none 0 0, .slice none 0 0, .slice (some ⟨g4, 0, none⟩) na cap4, .slice (some ⟨g5, 0, none⟩) nb cap5] [[], [], [], a, b] (by simp only [List.map_toArray, List.map_cons, List.map_nil]; rfl) (bsl5 _ _ _ _ _ _ _ _ _ _ _ _ _ _ _ _) rfl (by decide) rfl (bagSl HBag.out) ?_; intro V30 hls30 hb30 hbk30)
          | (go_at_call 16; refine (apart_new V3 _ _ _ _ 5 hbC HBag.out hbk30 hb30 rfl (by omega) HLn.out).mono ?_; rintro e V31 ⟨rfl, hb31⟩))
        all_goals (go_ret; exact ⟨rfl, ab_trans hbV hb31⟩)
      | true =>
        have hile := insB_le hok
        rw [hna] at hile
        have HUP : Hid (∀ W, Sl W (.slice q0 na c0) a → Calls Try.prog 27 #[.slice q0 na c0] W fun e w' => ∃ v', e = .returned (.tuple #[v', .int .i64 ((8 + (insB a).length : Nat) : Int)]) ∧ Ow w' W.heap.size v' (insB a) ∧ Below W.heap.size W w') := fun W h => (runwrap_any _ _ W h B0 (by omega)).mono fun e w' ⟨h1, h2⟩ => by
          obtain ⟨v', h3, h4⟩ := h1.ok hok
          exact ⟨v', h3, h4, h2⟩
        have HUO : Hid (∀ W, Sl W (.slice (some ⟨g4, 0, none⟩) na cap4) a → Calls Try.prog 26 #[.slice (some ⟨g4, 0, none⟩) na cap4] W fun e w' => ∃ v1 v2 W1, e = .returned (.tuple #[v1, v2, .nilIface]) ∧ Below W.heap.size W W1 ∧ Ow W1 W.heap.size v1 (insB a) ∧ Ow w' W1.heap.size v2 (a.drop (8 + (insB a).length)) ∧ Below W1.heap.size W1 w') := fun W h => unwrap_ok _ a W h B0 (by omega) hok
        have HDL : Hid ((a.drop (8 + (insB a).length)).length = na - (8 + (insB a).length)) := by show _ = _; rw [List.length_drop, hna]
        generalize hI : insB a = I at *
        generalize hsz : 8 + I.length = sz at *
        clear hok
        go_upto_region 11 with (go_at_call 26; refine (HUO.out _ HCx.ow.sl).mono ?_; rintro e VA ⟨vi, vr, W1, rfl, bf1, HIi, HRA, hba⟩)
        go_upto_region 12 with (go_at_call 27; refine (HUP.out _ (S0f.keep (ab_trans bf1 hba))).mono ?_; rintro e VB ⟨vu, rfl, HOu, hbb⟩)
        obtain ⟨qi, ci, ei⟩ := HIi.form
        subst ei
        obtain ⟨qr, cr, er⟩ := HRA.form
        rw [HDL.out] at er
        subst er
        obtain ⟨qu, cu, eu⟩ := HOu.form
        subst eu
        have SB := S0f.keep (ab_trans bf1 (ab_trans hba hbb))
        have hcap := SB.len.2.1
        have hszi : ((sz : Int) == 0) = false := by simp; omega
        have hszp : (0 : Int) < (sz : Int) := by omega
        have hszd : decide ((0 : Int) < (sz : Int)) = true := decide_eq_true hszp
        have hszn : decide (0 < sz) = true := decide_eq_true (by omega)
        have HTK : Hid ((a.drop sz).take (na - sz) = a.drop sz) := by show _ = _; rw [List.take_of_length_le (by rw [List.length_drop]; omega)]
        have hszle : sz ≤ na := by omega
        obtain ⟨q9, e9⟩ := sliced_form q0 sz na c0
        have s9 := SB.sub hszle (Nat.le_refl _) (Nat.le_refl _) hcap e9.symm
        rw [HTK.out] at s9
        have cv4 : ∀ y : Cls VB, (convert 22 9 (.slice q9 (na - sz) (c0 - sz))).run Try.prog y.val = .ok (.string (strB (a.drop sz))) y.val := fun y => sl_str (s9.keep y.prop)
        have sI := (HIi.keep (ab_trans hba hbb)).sl
        have sR := (HRA.keep hbb).sl
        have cv1 : ∀ y : Cls VB, (convert 22 9 (.slice qi I.length ci)).run Try.prog y.val = .ok (.string (strB I)) y.val := fun y => sl_str (sI.keep y.prop)
        have cv2 : ∀ y : Cls VB, (convert 22 9 (.slice qu I.length cu)).run Try.prog y.val = .ok (.string (strB I)) y.val := fun y => sl_str (HOu.sl.keep y.prop)
        have cv3 : ∀ y : Cls VB, (convert 22 9 (.slice qr (na - sz) cr)).run Try.prog y.val = .ok (.string (strB (a.drop sz))) y.val := fun y => sl_str (sR.keep y.prop)
        refine wp_region_below (by kernel_rfl) (by kernel_rfl) ?_
        have HZ := cls_some VB
        repeat (go_big_quiet_step (fail))
        refine quiet_val rfl (.string (strB (a.drop sz))) (fun w' hC => by
          obtain ⟨yy, rfl⟩ := hC
          refine cv_run (x := .tmp 112) rfl rfl ?_
          rw [← HTK.out]
          refine (SB.sub hszle (Nat.le_refl _) (Nat.le_refl _) hcap ?_).keep yy.prop
          first
            | rfl
            | (simp only [sliced, Nat.mul_one]; rfl)) ?_
        go_frame
        repeat (go_big_quiet_step (fail))
        refine wpQuiet_nil ?_
        rintro _ ⟨y, rfl⟩
        obtain ⟨VC, hbc⟩ := y
        dsimp only
        try generalize (if c0 = sz then q0 else _) = qz
        have b1v := ab_trans hba (ab_trans hbb hbc)
        have HRr := (HRA.keep hbb).keep hbc
        have hfi : VF.heap.size ≤ VF.heap.size := Nat.le_refl _
        have hir : W1.heap.size ≤ W1.heap.size := Nat.le_refl _
        have HLI : I.length ≤ 110000 := by omega
        have HLR : (a.drop sz).length ≤ 110000 := by rw [List.length_drop]; omega
        clear cv1 cv2 cv3 cv4 HZ
        have HBg := bag5 HC4.ow HC5.ow HFf HIi HRr hb4.size hb5 b5f bf1 b1v h5f hfi hir
        have HBag : Hid (Bag VC V3.heap.size [.slice none 0 0, .slice qi I.length ci, .slice qr (na - sz) cr, .slice (some ⟨g4, 0, none⟩) na cap4, .slice (some ⟨g5, 0, none⟩) nb cap5] [[], I, a.drop sz, a, b]) := HBg
        have hbC := ab_trans hb35 (ab_trans b5f (ab_trans bf1 b1v))
        have HLn : Hid (∀ l ∈ [[], I, a.drop sz, a, b], l.length ≤ 110000) := by
          intro l hl
          simp only [List.mem_cons, List.not_mem_nil, or_false] at hl
          rcases hl with rfl | rfl | rfl | rfl | rfl
          · exact HLF
          · exact HLI
          · exact HLR
          · omega
          · omega
        have b5C := ab_trans b5f (ab_trans bf1 b1v)
        clear HBg
        go_wp2_with fail
        refine (kept_any _ _ a V3.heap.size _ (HC45.keep b5C) (S05.keep b5C) (by omega)).mono ?_
        rintro e VD ⟨rfl, rfl⟩
        go_wp2_with fail
        refine (kept_any _ _ b V4.heap.size _ (HC5.keep b5C) (S15.keep b5C) (by omega)).mono ?_
        rintro e VE ⟨rfl, rfl⟩
        go_wp2_with (first
          | (refine bs_ls rfl rfl [.slice none 0 0, .slice qi I.length ci, .slice qr (na - sz) cr, .slice (some ⟨g4, 0, none⟩) na cap4, .slice (some ⟨g5, 0, none⟩) nb cap5] [[], I, a.drop sz, a, b] (by simp only [List.map_toArray, List.map_cons, List.map_nil]; rfl) (bsl5 _ _ _ _ _ _ _ _ _ _ _ _ _ _ _ _) rfl (by decide) rfl (bagSl HBag.out) ?_; intro V30 hls30 hb30 hbk30)
          | (go_at_call 16; refine (apart_new V3 _ _ _ _ 5 hbC HBag.out hbk30 hb30 rfl (by omega) HLn.out).mono ?_; rintro e V31 ⟨rfl, hb31⟩))
        all_goals (go_ret; exact ⟨rfl, ab_trans hbV hb31⟩)

theorem own : ownKnob Try.prog.godebug = none := by kernel_rfl
theorem laidOut : laidOutB Try.prog = true := by kernel_rfl

set_option maxRecDepth 100000 in
theorem lifted (os : Os) (started : os.Started) (H : Type) (enc : TypeId × Value → H) :
    ReturnsInHanded {} Try.checked os 5 .any (Rows.frameWrapsSpec.pre6 enc Try.prog Try.f5 Rows.frameWrapsRow.domain false) (Rows.frameWrapsSpec.post enc Try.prog Try.f5 false true false false) := by
  refine returnsInHanded_of_change (C := Try.checked) own started (by kernel_rfl) Try.func5
    (ChangeSpec.witness6 (enc := enc) (C := Try.checked) false ⟨#[], #[.slice none 0 0, .slice none 0 0], []⟩ 8 (by kernel_rfl) (by kernel_rfl) (by kernel_rfl) (by kernel_rfl)) ?_
  intro W base args ds gs before hval0 hW hcnd _
  have hval : ∀ (j : Nat) t v, Try.f5.params[j]? = some t → args[j]? = some v → Value.okWide Try.prog W .any base t v := hval0
  have hW' := hW
  obtain ⟨p, q, hA0, hV, rfl, hfz, hnd⟩ := hW
  have hA : DataW.TrodAll enc Try.prog W 0 (fun _ => true) true Try.f5.params.toList args.toList ds p := hA0
  rw [Try.params5] at hA hval
  obtain ⟨v0, vs0, d0, ds0, p0, q0, hargs, rfl, rfl, h0, r0⟩ := trodAll_cons hA
  obtain ⟨v1, vs1, d1, ds1, p1, q1, rfl, rfl, rfl, h1, r1⟩ := trodAll_cons r0
  obtain ⟨rfl, rfl, rfl⟩ := trodAll_nil r1
  obtain rfl : args = #[v0, v1] := by cases args; simp_all
  obtain ⟨rfl, rfl⟩ := trodVars_none hV
  have k0 := h0
  have lt0 : ∀ x ∈ p0, x.block < W.heap.size := by obtain ⟨m, hm⟩ := k0; exact DataW.trod_lt m _ _ _ hm
  have k1 := h1
  have lt1 : ∀ x ∈ p1, x.block < W.heap.size := by obtain ⟨m, hm⟩ := k1; exact DataW.trod_lt m _ _ _ hm
  obtain ⟨l0_, S0_, B0_⟩ := open_bytes (hval 0 22 v0 rfl rfl) h0
  obtain ⟨l1_, S1_, B1_⟩ := open_bytes (hval 1 22 v1 rfl rfl) h1
  clear hA0 hval0
  refine (walk v0 l0_ S0_ B0_ v1 l1_ S1_ B1_).mono fun e W' ⟨he, bel⟩ => ?_
  subst he
  exact ⟨_, rfl, _, _, _, [], _, [], hW', trodAll_mk1 (shut_bool Try.underlying4 _), (trodAll_cons_mk (Below.trod laidOut (by kernel_rfl) (of_decide_eq_true (by kernel_rfl)) k0 bel lt0) (trodAll_cons_mk (Below.trod laidOut (by kernel_rfl) (of_decide_eq_true (by kernel_rfl)) k1 bel lt1) trodAll_mk0)), rfl, bel.frame _, fun h => by cases h⟩

theorem over : Rows.frameWrapsRow.holds Try.pinned (OpenSpec.ofChange Rows.frameWrapsSpec) :=
  OpenClaim.holds_of_wide 5 Try.f5 rfl rfl rfl rfl rfl rfl rfl ⟨rfl, rfl, rfl, rfl, rfl⟩ rfl rfl rfl rfl rfl (by kernel_rfl) Try.func5 (by kernel_rfl)
    (of_decide_eq_true (by kernel_rfl)) (by unfold Func.isWrapper; first | (rw [if_pos (by decide +kernel)]; kernel_rfl) | (rw [if_neg (by decide +kernel)]; exact ⟨rfl, rfl⟩))
    (fun os started H enc _ => lifted os started H enc)

theorem proved : Rows.FrameWrapsSaid := over
end Go.Proofs.Ytgimkaklocmhkaa.frameWraps
namespace Go.Proofs.Ytgimkaklocmhkaa
theorem frameWraps_holds : Rows.FrameWrapsSaid := frameWraps.proved
#print axioms frameWraps_holds
end Go.Proofs.Ytgimkaklocmhkaa
