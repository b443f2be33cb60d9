/-
  Which frames any bytes begin with: estuarylaw04.FrameSplits returns true for every input; no condition.
-/
import Derived.Test.YtgimkaklocmhkaaFrE
import Derived.Test.YtgimkaklocmhkaaFrW
import Derived.Test.YtgimkaklocmhkaaFrQ
import Derived.Test.YtgimkaklocmhkaaFrL
import Derived.ProofKit
import Derived.OpenShut
import Derived.ChangeOld
import Derived.Below
import Derived.Lib.SmallJoins
namespace Go.Proofs.Ytgimkaklocmhkaa.frameSplits
open Go.ChangeShapes Go.WideShapes Go.ChangeAt Go.RowKit Go.Joins
set_option linter.unusedVariables false

theorem spt_bound (l : List Nat) : ∀ f ∈ spt l, f.length ≤ 16376 := by
  induction hl : l.length using Nat.strongRecOn generalizing l with
  | _ n ih =>
    cases hok : insOK l with
    | false => rw [spt_stop hok]; intro f hf; simp at hf
    | true =>
      have h := insB_le hok
      rw [spt_go hok]
      intro f hf
      rcases List.mem_cons.1 hf with rfl | h2
      · exact h.2
      · exact ih (l.drop (8 + (insB l).length)).length (by rw [List.length_drop]; omega) _ rfl f h2
theorem spt_N (l : List Nat) : spN (spt l) ≤ l.length := by
  induction hl : l.length using Nat.strongRecOn generalizing l with
  | _ n ih =>
    cases hok : insOK l with
    | false => rw [spt_stop hok]; simp [spN]
    | true =>
      have h := insB_le hok
      rw [spt_go hok]
      have := ih (l.drop (8 + (insB l).length)).length (by rw [List.length_drop]; omega) _ rfl
      rw [List.length_drop] at this
      simp [spN] at this ⊢
      omega
set_option maxRecDepth 100000 in
set_option maxHeartbeats 2000000 in
theorem walk {W : World} (v0 : Value) (b : List Nat) (S0 : Sl W v0 b) (B0 : Byt b) :
    Calls Try.prog 6 #[v0] W fun e w' => e = .returned (.bool true) ∧ Below W.heap.size W w' := by
  obtain ⟨q0, c0, e0, -⟩ := id S0
  subst e0
  go_enter Try.func6, Try.ntmps6
  go_upto_region 3 with (go_at_call 9; refine (alive4_any _).mono ?_; rintro e V1 ⟨rfl, hb1⟩)
  have S01 := S0.keep hb1
  go_wp2_with (refine bs_ls rfl rfl [_] [b] (by simp only [List.map_toArray, List.map_cons, List.map_nil]; rfl) (bsl1 _ _ _ _) rfl (by decide) rfl (each1 S01) ?_; intro V2 hls2 hb2 hbk2)
  refine (large_any _ _ _ _ hls2).mono ?_
  rintro e V3 ⟨⟨r, rfl, hr⟩, rfl⟩
  have hbV := ab_trans hb1 hb2
  clear hls2 hbk2 hb1 hb2 S01
  cases r with
  | true =>
    go_wp2_with fail
    go_ret
    exact ⟨rfl, hbV⟩
  | false =>
    obtain ⟨-, htot⟩ := hr rfl
    have hbl : b.length ≤ 65536 := by simpa using htot
    clear hr htot
    have hN8 := spN_len (spt b)
    have hNb := spt_N b
    have HFB : Hid (∀ f ∈ spt b, f.length ≤ 16376) := spt_bound b
    generalize hnb : b.length = nb at *
    go_upto_region 6 with (go_at_call 11; refine (copy_any _ b _ (S0.keep hbV) (by omega)).mono ?_; rintro e V4 ⟨v4, rfl, HC4, hb4⟩)
    obtain ⟨g4, cap4, e4, -⟩ := id HC4
    rw [hnb] at e4
    subst e4
    go_upto_region 7 with (go_at_call 28; refine (split_any _ b _ HC4.ow.sl B0 (by omega)).mono ?_; rintro e V5 ⟨v5, vs5, rfl, HL5, hb5⟩)
    go_upto_region 8 with (go_at_call 29; refine (rsplit_any _ b _ (S0.keep (ab_trans hbV (ab_trans hb4 hb5))) B0 (by omega)).mono ?_; rintro e V6 ⟨v6, vs6, rfl, HL6, hb6⟩)
    have HL56 := HL5.keep hb6
    have HC6 := (HC4.keep hb5).keep hb6
    have hb36 := ab_trans hb4 (ab_trans hb5 hb6)
    have S06 := S0.keep (ab_trans hbV hb36)
    obtain ⟨q5, cp5, g5, o5, e5, hc5, hm5, hp5, hg5, hr5⟩ := (HL56.bag.ls HL56.row).open
    obtain ⟨q6, cp6, g6, o6, e6, hc6, hm6, hp6, hg6, hr6⟩ := (HL6.bag.ls HL6.row).open
    have hlv5 := HL56.bag.len
    have hlv6 := HL6.bag.len
    generalize hfs : spt b = fs at *
    generalize hM : spN fs = M at *
    generalize hk : fs.length = k at *
    subst e5
    subst e6
    have hmm : ((M : Int) != (M : Int)) = false := by simp
    have hkk : ((k : Int) != (k : Int)) = false := by simp
    go_upto_region 10 with (go_at_call 14; refine (kept_any _ _ b V3.heap.size _ HC6 S06 (by omega)).mono ?_; rintro e V7 ⟨rfl, rfl⟩)
    have HE5 : Hid (∀ (j : Nat) (x : Value) (l : List Nat), vs5[j]? = some x → fs[j]? = some l → Sl V7 x l) := fun j x l h1 h2 => (HL56.bag.own j x l h1 h2).sl
    have HE6 : Hid (∀ (j : Nat) (x : Value) (l : List Nat), vs6[j]? = some x → fs[j]? = some l → Sl V7 x l) := fun j x l h1 h2 => (HL6.bag.own j x l h1 h2).sl
    have HR5 : Hid (VRow V7 g5 o5 vs5) := hr5
    have HR6 : Hid (VRow V7 g6 o6 vs6) := hr6
    clear hr5 hr6
    go_wp2_with fail
    go_loopw [44] (fun i wr' => ∃ j : Nat, j ≤ k ∧ i = .int .i64 (j : Int) ∧ Below V7.heap.size V7 wr') (fun i _ => k - (intOf i).toNat)
    case atStart => exact ⟨0, by omega, rfl, Below.refl _ _⟩
    case round =>
      obtain ⟨j, hj, rfl, hbj⟩ := hrel
      by_cases cj : j = k
      · have hji : ¬ (j : Int) < (k : Int) := by omega
        by_cases c2 : 200 < k
        · have c2d : decide (200 < (k : Int)) = true := decide_eq_true (by omega)
          go_wp2_with fail
          go_ret
          exact ⟨rfl, ab_trans hbV (ab_trans hb36 hbj)⟩
        · have c2d : decide (200 < (k : Int)) = false := decide_eq_false (by omega)
          have HLj := HL56.keep hbj
          have HCj := HC6.keep hbj
          have hS1 : ∀ (i : Nat) (u : Value), vs5[i]? = some u → Sep u (.slice (some ⟨g4, 0, none⟩) nb cap4) := fun i u hu => (sep_lt (fun x hx => (HC4.ow.lt x hx).2) (fun x hx => (HL5.bag.lt hu x hx).1)).symm
          have hB := (⟨HLj.bag.len, fun i v l h1 h2 => (HLj.bag.own i v l h1 h2).less hb4.size, HLj.bag.sep⟩ : Bag wr V3.heap.size vs5 fs).snoc HCj.ow hS1
          have HLen : Hid (∀ l ∈ fs ++ [b], l.length ≤ 110000) := by
            intro l hl
            rcases List.mem_append.1 hl with h | h
            · have := HFB.out l h; omega
            · simp at h; subst h; omega
          have hrow : wr.ownsRow V3.heap.size 22 1 (.slice q5 k cp5) k vs5 := by
            have := own_less HLj.row hb4.size
            rwa [hk] at this
          have hysep : ∀ (i : Nat) (u : Value), vs5[i]? = some u → Sep u (.slice q5 k cp5) := HLj.sep
          have hcsep : Sep (.slice (some ⟨g4, 0, none⟩) nb cap4) (.slice q5 k cp5) := sep_lt (fun x hx => (HC4.ow.lt x hx).2) (fun x hx => (World.ownsRow.lt HLj.row x hx).1)
          go_wp2_with (first
            | (refine bs_ls rfl rfl [.slice (some ⟨g4, 0, none⟩) nb cap4] [b] (by simp only [List.map_toArray, List.map_cons, List.map_nil]; rfl) (bsl1 _ _ _ _) rfl (by decide) rfl (each1 HCj.ow.sl) ?_; intro W8 hls8 hb8 hbk8)
            | (at_builtin; refine app1 V3 rfl rfl rfl (own_keep hrow hb8) rfl ⟨_, _, _, rfl⟩ (hbk8.at (i := 0) rfl) (by omega) (ab_trans (ab_trans hb36 hbj) hb8) ?_; intro v9 W9 hown9 hnn9 hb9 hgr9 hat9))
          have hgr10 : W8.grownBy W9 (Value.slice q5 k cp5).ownBlock := hgr9
          have hat10 : v9.ownBlock = (Value.slice q5 k cp5).ownBlock ∨ v9.ownBlock = some W8.heap.size := hat9
          have hallsep : ∀ (i : Nat) (u : Value), (vs5 ++ [.slice (some ⟨g4, 0, none⟩) nb cap4])[i]? = some u → Sep u (.slice q5 k cp5) := fun i u hu => by
            rcases snoc_at hu with ⟨_, h2⟩ | ⟨_, h2⟩
            · exact hysep i u h2
            · subst h2; exact hcsep
          have hB8 := hB.keep hb8
          have hB9 := hB8.kept hgr10 hallsep
          have hsg9 : ∀ (i : Nat) (u : Value), (vs5 ++ [.slice (some ⟨g4, 0, none⟩) nb cap4])[i]? = some u → Sep u v9 := fun i u hu => sep_at (hallsep i u hu) (fun x hx => (hB8.lt hu x hx).2) hat10
          obtain ⟨g9, cap9, e9, -, hg9, -, -, hcl9⟩ := own_cells hown9 hnn9
          subst e9
          have hl9 : (vs5 ++ [Value.slice (some ⟨g4, 0, none⟩) nb cap4]).length = k + 1 := by rw [List.length_append, hlv5]; rfl
          refine (apart_bag V3 g9 cap9 (k + 1) _ _ _ hb9 hB9 hcl9 hl9 (by omega) HLen.out hg9 hsg9).mono ?_
          rintro e W10 ⟨rfl, hb10⟩
          go_wp2_with fail
          go_ret
          exact ⟨rfl, ab_trans hbV hb10⟩
      · obtain ⟨x, hx⟩ : ∃ x, vs5[j]? = some x := ⟨vs5[j], List.getElem?_eq_getElem (by omega)⟩
        obtain ⟨x6, hx6⟩ : ∃ x, vs6[j]? = some x := ⟨vs6[j], List.getElem?_eq_getElem (by omega)⟩
        obtain ⟨l, hl⟩ : ∃ l, fs[j]? = some l := ⟨fs[j], List.getElem?_eq_getElem (by omega)⟩
        obtain rfl := hp5 (by omega)
        obtain rfl := hp6 (by omega)
        have hg51 := hg5 (by omega)
        have hg61 := hg6 (by omega)
        have d := keep_cell hbj (HR5.out j x hx) hg51
        have d6 := keep_cell hbj (HR6.out j x6 hx6) hg61
        have s1 := (HE5.out j x l hx hl).keep hbj
        have s2 := (HE6.out j x6 l hx6 hl).keep hbj
        have hji : (j : Int) < (k : Int) := by omega
        have hjk : j < k := by omega
        clear hx hx6 hl
        go_upto_region 13 with fail
        have k1 := cls_cell d (Nat.lt_of_lt_of_le hg51 hbj.size)
        have k2 := cls_cell d6 (Nat.lt_of_lt_of_le hg61 hbj.size)
        have hc1 : ∀ y : Cls wr, (convert 22 9 x).run Try.prog y.val = .ok (.string (strB l)) y.val := fun y => sl_str (s1.keep y.prop)
        have hc2 : ∀ y : Cls wr, (convert 22 9 x6).run Try.prog y.val = .ok (.string (strB l)) y.val := fun y => sl_str (s2.keep y.prop)
        refine wp_region_below (by kernel_rfl) (by kernel_rfl) ?_
        have HZ := cls_some wr
        repeat (go_big_quiet_step (fail))
        refine wpQuiet_nil ?_
        rintro _ ⟨y, rfl⟩
        obtain ⟨W9, hb9⟩ := y
        dsimp only
        clear k1 k2 hc1 hc2 HZ d d6 s1 s2
        go_wp2_with fail
        exact ⟨⟨j + 1, by omega, rfl, ab_trans hbj hb9⟩, by simp only [intOf]; omega⟩

theorem own : ownKnob Try.prog.godebug = none := by kernel_rfl
theorem laidOut : laidOutB Try.prog = true := by kernel_rfl

set_option maxRecDepth 100000 in
theorem lifted (os : Os) (started : os.Started) (H : Type) (enc : TypeId × Value → H) :
    ReturnsInHanded {} Try.checked os 6 .any (Rows.frameSplitsSpec.pre6 enc Try.prog Try.f6 Rows.frameSplitsRow.domain false) (Rows.frameSplitsSpec.post enc Try.prog Try.f6 false true false false) := by
  refine returnsInHanded_of_change (C := Try.checked) own started (by kernel_rfl) Try.func6
    (ChangeSpec.witness6 (enc := enc) (C := Try.checked) false ⟨#[], #[.slice none 0 0], []⟩ 8 (by kernel_rfl) (by kernel_rfl) (by kernel_rfl) (by kernel_rfl)) ?_
  intro W base args ds gs before hval0 hW hcnd _
  have hval : ∀ (j : Nat) t v, Try.f6.params[j]? = some t → args[j]? = some v → Value.okWide Try.prog W .any base t v := hval0
  have hW' := hW
  obtain ⟨p, q, hA0, hV, rfl, hfz, hnd⟩ := hW
  have hA : DataW.TrodAll enc Try.prog W 0 (fun _ => true) true Try.f6.params.toList args.toList ds p := hA0
  rw [Try.params6] at hA hval
  obtain ⟨v0, vs0, d0, ds0, p0, q0, hargs, rfl, rfl, h0, r0⟩ := trodAll_cons hA
  obtain ⟨rfl, rfl, rfl⟩ := trodAll_nil r0
  obtain rfl : args = #[v0] := by cases args; simp_all
  obtain ⟨rfl, rfl⟩ := trodVars_none hV
  have k0 := h0
  have lt0 : ∀ x ∈ p0, x.block < W.heap.size := by obtain ⟨m, hm⟩ := k0; exact DataW.trod_lt m _ _ _ hm
  obtain ⟨l0_, S0_, B0_⟩ := open_bytes (hval 0 22 v0 rfl rfl) h0
  clear hA0 hval0
  refine (walk v0 l0_ S0_ B0_).mono fun e W' ⟨he, bel⟩ => ?_
  subst he
  exact ⟨_, rfl, _, _, _, [], _, [], hW', trodAll_mk1 (shut_bool Try.underlying4 _), (trodAll_cons_mk (Below.trod laidOut (by kernel_rfl) (of_decide_eq_true (by kernel_rfl)) k0 bel lt0) trodAll_mk0), rfl, bel.frame _, fun h => by cases h⟩

theorem over : Rows.frameSplitsRow.holds Try.pinned (OpenSpec.ofChange Rows.frameSplitsSpec) :=
  OpenClaim.holds_of_wide 6 Try.f6 rfl rfl rfl rfl rfl rfl rfl ⟨rfl, rfl, rfl, rfl, rfl⟩ rfl rfl rfl rfl rfl (by kernel_rfl) Try.func6 (by kernel_rfl)
    (of_decide_eq_true (by kernel_rfl)) (by unfold Func.isWrapper; first | (rw [if_pos (by decide +kernel)]; kernel_rfl) | (rw [if_neg (by decide +kernel)]; exact ⟨rfl, rfl⟩))
    (fun os started H enc _ => lifted os started H enc)

theorem proved : Rows.FrameSplitsSaid := over
end Go.Proofs.Ytgimkaklocmhkaa.frameSplits
namespace Go.Proofs.Ytgimkaklocmhkaa
theorem frameSplits_holds : Rows.FrameSplitsSaid := frameSplits.proved
#print axioms frameSplits_holds
end Go.Proofs.Ytgimkaklocmhkaa
