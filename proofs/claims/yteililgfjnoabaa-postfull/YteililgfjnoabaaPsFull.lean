/-
  4096 messages are on their way at most, those beyond are lost: estuarylaw08.PostFull returns true for every input; no condition.
-/
import Derived.Test.YteililgfjnoabaaPoH
import Derived.ProofKit
import Derived.OpenShut
import Derived.ChangeOld
import Derived.Below
import Derived.Lib.SmallJoins
namespace Go.Proofs.Yteililgfjnoabaa.postFull
open Go.ChangeShapes Go.WideShapes Go.ChangeAt Go.RowKit Go.Joins
set_option linter.unusedVariables false

/-- Message i, and the post behind i of them. -/
def mg (i : Nat) : List Nat := [i % 256, i / 256 % 256]
def fl (i : Nat) : PS := ⟨(List.range (min i 4096)).map mg, ((i - 4096 : Nat) : Int), 0⟩
theorem fl_len (i : Nat) : (fl i).l.length = min i 4096 := by simp [fl]
theorem fl_step (i : Nat) (h : i < 100000) : put1 (fl i) (mg i) = fl (i + 1) := by
  unfold put1
  rw [fl_len]
  by_cases c : i < 4096
  · rw [if_pos (by omega)]
    unfold fl
    rw [show min i 4096 = i by omega, show min (i + 1) 4096 = i + 1 by omega, show i - 4096 = 0 by omega, show i + 1 - 4096 = 0 by omega, List.range_succ, List.map_append]
    rfl
  · rw [if_neg (by omega)]
    unfold fl
    dsimp only
    rw [show min i 4096 = 4096 by omega, show min (i + 1) 4096 = 4096 by omega, inc_nat _ (by omega), show i + 1 - 4096 = i - 4096 + 1 by omega]
theorem fl_end (k : Nat) : ∃ F : List (List Nat), F.length = 4096 ∧ F[0]? = some [0, 0] ∧ F[4095]? = some [255, 15] ∧ fl (4096 + k) = ⟨F, (k : Int), 0⟩ := by
  refine ⟨(List.range 4096).map mg, by simp, ?_, ?_, ?_⟩
  · rw [List.getElem?_map, List.getElem?_range (by omega)]; rfl
  · rw [List.getElem?_map, List.getElem?_range (by omega)]; rfl
  · unfold fl
    rw [show min (4096 + k) 4096 = 4096 by omega, show 4096 + k - 4096 = k by omega]
theorem inc_int (k : Nat) (h : k < 100) : inc (k : Int) = (k : Int) + 1 := by rw [inc_nat k (by omega)]; omega
theorem mg_byt (i : Nat) : Byt (mg i) := fun x hx => by
  simp [mg] at hx
  rcases hx with rfl | rfl <;> omega
set_option maxRecDepth 100000 in
set_option maxHeartbeats 4000000 in
theorem walk (mo : Int) (hmo : I64 mo) (W : World) :
    Calls Try.prog 5 #[.int .i64 mo] W fun e w' => e = .returned (.bool true) ∧ Below W.heap.size W w' := by
  go_enter Try.func5, Try.ntmps5
  go_upto_region 3 with (go_at_call 9; refine (alive8_any _).mono ?_; rintro e V1 ⟨rfl, hb1⟩)
  go_upto_region 4 with fail
  obtain ⟨k, hk0, hk⟩ := mod_nat mo 100 (by omega) (by omega)
  rw [hk]
  have hk1 : k < 100 := by omega
  clear hk
  go_upto_region 5 with (go_at_call 11; refine (pnew_any _).mono ?_; rintro e V2 ⟨rfl, h2, b2⟩)
  go_wp2_with fail
  go_loopw [4] (fun i wr => ∃ (j : Nat) (v' : Value), j ≤ 4096 + k ∧ i = .int .i64 (j : Int) ∧ Pt wr V1.heap.size V1.heap.size v' (fl j) ∧ Below V1.heap.size V1 wr) (fun i _ => 4096 + k - (intOf i).toNat)
  case atStart => exact ⟨0, _, by omega, rfl, h2, b2⟩
  case round =>
    clear h2 b2
    obtain ⟨j, v4, hj, rfl, h4, b4⟩ := hrel
    by_cases cj : j = 4096 + k
    · subst cj
      obtain ⟨F, hFl, hF0, hFe, hF⟩ := fl_end k
      rw [hF] at h4
      clear hF
      have HU : Hid (put1 ⟨F, (k : Int), 0⟩ [0, 0] = ⟨F, (k : Int) + 1, 0⟩) := by
        show _ = _
        unfold put1
        dsimp only
        rw [if_neg (by omega), inc_int k hk1]
      obtain ⟨q4, cap4, e4, -⟩ := h4.form
      have c2 := h4.tri.c2
      have c0 := h4.tri.c0
      rw [e4] at c2
      dsimp only at c2 c0
      rw [hFl] at c2
      go_wp2_with (first
        | (go_at_call 21; refine (plen_any _ _ _ _ _ c2).mono ?_; rintro e X ⟨rfl, hX⟩; subst X)
        | (go_at_call 22; refine (plost_any _ _ _ c0).mono ?_; rintro e X ⟨rfl, hX⟩; subst X))
      refine (copy_yes _ _ 0 _ _ [0, 0] _ h4 hF0).mono ?_
      rw [HU.out]
      rintro e V5 ⟨rfl, v5, h5, m5⟩
      have b5 := b4.trans (h4.below m5)
      have c05 := h5.tri.c0
      dsimp only at c05
      clear c0 c2 e4 h4 m5 b4
      go_upto_region 11 with (go_at_call 22; refine (plost_any _ _ _ c05).mono ?_; rintro e X ⟨rfl, hX⟩; subst X)
      go_upto_region 12 with (go_at_call 18; refine (deliver_yes _ _ 4095 _ _ [255, 15] _ h5 hFe).mono ?_; rintro e V6 ⟨x6, v6, rfl, M6, h6, m6⟩)
      have b6 := b5.trans (h5.below m6)
      rw [inc_0] at h6
      have hEl : (F.eraseIdx 4095).length = 4095 := by rw [List.length_eraseIdx_of_lt (by omega)]; omega
      obtain ⟨q6, cap6, g6, off6, e6, hc6, hm6, hp6, hg6, hr6⟩ := M6.sl.open
      have d0 := hr6 0 255 rfl
      have d1 := hr6 1 15 rfl
      have hq6 := hp6 (by decide)
      have hl2 : ([255, 15] : List Nat).length = 2 := rfl
      rw [hl2] at e6 hc6
      subst hq6
      subst e6
      rw [Nat.add_zero] at d0
      clear hp6 hg6 hr6 c05 h5 b5 m6 M6 hl2
      generalize F.eraseIdx 4095 = E at *
      clear hFl hF0 hFe HU F
      have HP : Hid (puts ⟨E, (k : Int) + 1, 1⟩ [[120]] = ⟨E ++ [[120]], (k : Int) + 1, 1⟩) := by
        show put1 _ _ = _
        exact if_pos (by show E.length < 4096; omega)
      have HPl : Hid ((E ++ [[120]]).length = 4096) := by show _ = _; simp; omega
      go_wp2_with (first
        | (have mk := t8; clear mk; refine bs_ls (by kernel_rfl) rfl [_] [[120]] (by simp only [List.map_toArray, List.map_cons, List.map_nil]; rfl) (bsl1 _ _ _ _) rfl (by decide) rfl (each1 t8.sl) ?_; intro V9 ls9 b9 k9; have h9 := h8.keep b9; have st9 := stl_newG (n := 1) [_] [[120]] h8.blk.lt h8.vlt b9 k9 rfl (by decide) rfl (eachS1 t8); have bb9 := ab_trans bb8 b9; clear h8 bb8 b9 k9 ls9 t8; go_frame)
        | (refine cv_t (by kernel_rfl) rfl rfl n7 ?_; intro V8 s8 k8; have c8 := below_markP b7 k8; have h8 := h6.keep c8; have t8 := stb_new h6.blk.lt h6.vlt s8; have bb8 := ab_trans b6 c8; clear n7 b7 k8 s8 c8; go_frame)
        | (refine bs_by (by kernel_rfl) rfl [120] (vs := #[(0, .int .u8 120)]) (by simp only [List.map_toArray, List.map_cons, List.map_nil]; rfl) (bsb1 120 _) rfl (by decide) ?_; intro V7 n7 b7 z7; clear z7; go_frame))
      refine (send_any _ _ _ _ _ _ _ _ _ _ h9 st9 (by unfold Byt; decide)).mono ?_
      rw [HP.out]
      dsimp only
      rw [HPl.out]
      rintro e V10 ⟨rfl, v10, h10, m10⟩
      have c10 := h10.tri.c0
      dsimp only at c10
      go_wp2_with (go_at_call 22; refine (plost_any _ _ _ c10).mono ?_; rintro e X ⟨rfl, hX⟩; subst X)
      go_ret
      exact ⟨by simp, ab_trans hb1 (bb9.trans (h9.below m10))⟩
    · have hji : (j : Int) < 4096 + (k : Int) := by omega
      have hjk : j < 4096 + k := by omega
      have hA : Hid (((j : Int) % 256) = ((j % 256 : Nat) : Int)) := by show _ = _; omega
      have hB : Hid (((j : Int) / 256) = ((j / 256 % 256 : Nat) : Int)) := by show _ = _; omega
      have HY : Hid (∀ l ∈ [mg j], Byt l ∧ l.length ≤ 9223372036854775807) := fun l hl => by
        obtain rfl : l = mg j := by simpa using hl
        exact ⟨mg_byt j, by simp [mg]⟩
      have HF : Hid (puts (fl j) [mg j] = fl (j + 1)) := fl_step j (by omega)
      go_wp2_with (first
        | (go_at_call 14; refine (send_any _ _ _ _ _ _ _ _ _ _ h6 st6 HY.out).mono ?_; rw [HF.out]; rintro e V7 ⟨rfl, v7, h7, m7⟩)
        | (have mk := h5; clear mk; refine bs_ls (by kernel_rfl) rfl [_] [mg j] (by simp only [List.map_toArray, List.map_cons, List.map_nil]; rfl) (bsl1 _ _ _ _) rfl (by decide) rfl (each1 t5.sl) ?_; intro V6 ls6 b6 k6; have h6 := h5.keep b6; have st6 := stl_newG (n := 1) [_] [mg j] h5.blk.lt h5.vlt b6 k6 rfl (by decide) rfl (eachS1 t5); have bb6 := ab_trans bb5 b6; clear h5 bb5 b6 k6 ls6 t5; go_frame)
        | (rw [hA.out, hB.out]; refine bs_by (by kernel_rfl) rfl (mg j) (vs := #[(0, .int .u8 ((j % 256 : Nat) : Int)), (1, .int .u8 ((j / 256 % 256 : Nat) : Int))]) (by simp only [List.map_toArray, List.map_cons, List.map_nil]; rfl) (bsb2 _ _ _) rfl (by decide) ?_; intro V5 n5 b5 z5; clear z5; have h5 := h4.keep b5; have t5 := stb_new h4.blk.lt h4.vlt (own_sl n5).2; have bb5 := ab_trans b4 b5; clear n5 b5; go_frame))
      exact ⟨⟨j + 1, v7, by omega, rfl, h7, bb6.trans (h6.below m7)⟩, by simp only [intOf]; omega⟩

theorem own : ownKnob Try.prog.godebug = none := by kernel_rfl
theorem laidOut : laidOutB Try.prog = true := by kernel_rfl

set_option maxRecDepth 100000 in
theorem lifted (os : Os) (started : os.Started) (H : Type) (enc : TypeId × Value → H) :
    ReturnsInHanded {} Try.checked os 5 .any (Rows.postFullSpec.pre6 enc Try.prog Try.f5 Rows.postFullRow.domain false) (Rows.postFullSpec.post enc Try.prog Try.f5 false true false false) := by
  refine returnsInHanded_of_change (C := Try.checked) own started (by kernel_rfl) Try.func5
    (ChangeSpec.witness6 (enc := enc) (C := Try.checked) false ⟨#[], #[.int .i64 0], []⟩ 8 (by kernel_rfl) (by kernel_rfl) (by kernel_rfl) (by kernel_rfl)) ?_
  intro W base args ds gs before hval0 hW hcnd _
  have hval : ∀ (j : Nat) t v, Try.f5.params[j]? = some t → args[j]? = some v → Value.okWide Try.prog W .any base t v := hval0
  have hW' := hW
  obtain ⟨p, q, hA0, hV, rfl, hfz, hnd⟩ := hW
  have hA : DataW.TrodAll enc Try.prog W 0 (fun _ => true) true Try.f5.params.toList args.toList ds p := hA0
  rw [Try.params5] at hA hval
  obtain ⟨v0, vs0, d0, ds0, p0, q0, hargs, rfl, rfl, h0, r0⟩ := trodAll_cons hA
  obtain ⟨rfl, rfl, rfl⟩ := trodAll_nil r0
  obtain rfl : args = #[v0] := by cases args; simp_all
  obtain ⟨rfl, rfl⟩ := trodVars_none hV
  have k0 := h0
  have lt0 : ∀ x ∈ p0, x.block < W.heap.size := by obtain ⟨m, hm⟩ := k0; exact DataW.trod_lt m _ _ _ hm
  obtain ⟨a0, rfl, rfl, rfl, w0⟩ := open_int Try.underlying3 (hval 0 3 v0 rfl rfl) h0
  clear hA0 hval0
  refine (walk a0 (bounds_i64 w0) W).mono fun e W' ⟨he, bel⟩ => ?_
  subst he
  exact ⟨_, rfl, _, _, _, [], _, [], hW', trodAll_mk1 (shut_bool Try.underlying4 _), (trodAll_cons_mk (Below.trod laidOut (by kernel_rfl) (of_decide_eq_true (by kernel_rfl)) k0 bel lt0) trodAll_mk0), rfl, bel.frame _, fun h => by cases h⟩

theorem over : Rows.postFullRow.holds Try.pinned (OpenSpec.ofChange Rows.postFullSpec) :=
  OpenClaim.holds_of_wide 5 Try.f5 rfl rfl rfl rfl rfl rfl rfl ⟨rfl, rfl, rfl, rfl, rfl⟩ rfl rfl rfl rfl rfl (by kernel_rfl) Try.func5 (by kernel_rfl)
    (of_decide_eq_true (by kernel_rfl)) (by unfold Func.isWrapper; first | (rw [if_pos (by decide +kernel)]; kernel_rfl) | (rw [if_neg (by decide +kernel)]; exact ⟨rfl, rfl⟩))
    (fun os started H enc _ => lifted os started H enc)

theorem proved : Rows.PostFullSaid := over
end Go.Proofs.Yteililgfjnoabaa.postFull
namespace Go.Proofs.Yteililgfjnoabaa
theorem postFull_holds : Rows.PostFullSaid := postFull.proved
#print axioms postFull_holds
end Go.Proofs.Yteililgfjnoabaa
