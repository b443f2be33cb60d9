/-
  Messages that are delivered from the front come in the order in which they were sent: estuarylaw08.PostOrder returns true for every input; no condition.
-/
import Derived.Test.YteililgfjnoabaaPoH
import Derived.ProofKit
import Derived.OpenShut
import Derived.ChangeOld
import Derived.Below
import Derived.Lib.SmallJoins
namespace Go.Proofs.Yteililgfjnoabaa.postOrder
open Go.ChangeShapes Go.WideShapes Go.ChangeAt Go.RowKit Go.Joins
set_option linter.unusedVariables false

set_option maxRecDepth 100000 in
set_option maxHeartbeats 2000000 in
theorem walk {W : World} (q : Option Addr) (n c : Nat) (vs : List Value) (ls : List (List Nat)) (hZ : LsZ W (.slice q n c) vs ls) :
    Calls Try.prog 6 #[.slice q n c] W fun e w' => e = .returned (.bool true) ∧ Below W.heap.size W w' := by
  obtain ⟨L0, hB, -⟩ := hZ
  obtain ⟨hvn, hnc, hcm⟩ : ls.length = n ∧ n ≤ c ∧ c ≤ 9223372036854775807 := by
    obtain ⟨q', cap', g', off', ep', hc', hm', -⟩ := L0.open
    cases ep'
    exact ⟨rfl, hc', hm'⟩
  have hlen := L0.len
  go_enter Try.func6, Try.ntmps6
  go_upto_region 3 with (go_at_call 9; refine (alive8_any _).mono ?_; rintro e V1 ⟨rfl, hb1⟩)
  by_cases hbig : 2000 < n
  · have hbi : (2000 : Int) < (n : Int) := by omega
    go_wp2_with fail
    go_ret
    exact ⟨rfl, hb1⟩
  · have hbi : ¬ (2000 : Int) < (n : Int) := by omega
    have L1 := L0.keep hb1
    go_upto_region 6 with (go_at_call 11; refine (pnew_any _).mono ?_; rintro e V2 ⟨rfl, h2, b2⟩)
    have st2 := pst_old h2 b2 (Nat.le_refl _) L1
    have HB : Hid (∀ l ∈ ls, Byt l ∧ l.length ≤ 9223372036854775807) := fun l hl => ⟨(hB l hl).1, by have := (hB l hl).2; omega⟩
    have HP : Hid (puts ps0 ls = ⟨ls, 0, 0⟩) := puts_new ls (by omega)
    go_upto_region 8 with (go_at_call 14; refine (send_any _ _ _ _ _ _ _ _ _ _ h2 st2 HB.out).mono ?_; rw [HP.out]; dsimp only; rw [hvn]; rintro e V3 ⟨rfl, v3, h3, m3⟩)
    have b3 := b2.trans (h2.below m3)
    clear st2 h2 m3 b2 HB HP
    have hrefl : ∀ l : List Nat, ((strB l).toList == (strB l).toList) = true := fun l => by simp
    go_wp2_with fail
    go_loopw [24] (fun i wr => ∃ (k : Nat) (v' : Value), k ≤ n ∧ i = .int .i64 (k : Int) ∧ Pt wr V1.heap.size V1.heap.size v' ⟨ls.drop k, 0, (k : Int)⟩ ∧ Below V1.heap.size V1 wr) (fun i _ => n - (intOf i).toNat)
    case atStart => exact ⟨0, v3, by omega, rfl, h3, b3⟩
    case round =>
      clear h3 b3
      obtain ⟨k, v1, hk, rfl, h1, b1⟩ := hrel
      by_cases ck : k = n
      · subst ck
        rw [List.drop_of_length_le (by omega)] at h1
        have c1 := h1.tri.c1
        go_wp2_with (first
          | (go_at_call 18; refine (deliver_no _ _ 0 _ _ _ h1 (by simp)).mono ?_; rintro e X ⟨rfl, hX⟩; subst X)
          | (go_at_call 23; refine (ptaken_any _ _ _ c1).mono ?_; rintro e X ⟨rfl, hX⟩; subst X))
        go_ret
        exact ⟨by simp, ab_trans hb1 b1⟩
      · obtain ⟨y, hy⟩ : ∃ y, vs[k]? = some y := ⟨vs[k], List.getElem?_eq_getElem (by omega)⟩
        obtain ⟨l, hl⟩ : ∃ l, ls[k]? = some l := ⟨ls[k], List.getElem?_eq_getElem (by omega)⟩
        have st1 := pst_old h1 b1 (Nat.le_refl _) L1
        obtain ⟨g, off, hq, d⟩ := st1.cell (Mv.refl _ _ _) hy
        subst hq
        have hki : (k : Int) < (n : Int) := by omega
        have hkn : k < n := by omega
        have hm : (ls.drop k)[0]? = some l := by rw [List.getElem?_drop]; exact hl
        have HD : Hid ((ls.drop k).eraseIdx 0 = ls.drop (k + 1)) := drop_zero_erase ls k
        have HI : Hid (inc (k : Int) = ((k + 1 : Nat) : Int)) := inc_nat k (by omega)
        have HS : Hid (∀ W', Below V1.heap.size V1 W' → Sl W' y l) := fun W' hb => (L1.keep hb).each k y l hy hl
        clear hy hl
        go_upto_region 12 with (go_at_call 18; refine (deliver_yes _ _ 0 _ _ l _ h1 hm).mono ?_; rintro e V5 ⟨x5, v5, rfl, M5, h5, m5⟩)
        have b5 := b1.trans (h1.below m5)
        rw [HD.out, HI.out] at h5
        have cx := sl_str M5.sl
        have cy := sl_str (HS.out _ b5)
        have hr := hrefl l
        clear M5 m5 h1 b1 d st1
        go_wp2_with fail
        exact ⟨⟨k + 1, v5, by omega, rfl, h5, b5⟩, by simp only [intOf]; omega⟩

theorem own : ownKnob Try.prog.godebug = none := by kernel_rfl
theorem laidOut : laidOutB Try.prog = true := by kernel_rfl

set_option maxRecDepth 100000 in
theorem lifted (os : Os) (started : os.Started) (H : Type) (enc : TypeId × Value → H) :
    ReturnsInHanded {} Try.checked os 6 .any (Rows.postOrderSpec.pre6 enc Try.prog Try.f6 Rows.postOrderRow.domain false) (Rows.postOrderSpec.post enc Try.prog Try.f6 false true false false) := by
  refine returnsInHanded_of_change_sized (C := Try.checked) own started (by kernel_rfl) Try.func6
    (ChangeSpec.witness6 (enc := enc) (C := Try.checked) false ⟨#[], #[.slice none 0 0], []⟩ 8 (by kernel_rfl) (by kernel_rfl) (by kernel_rfl) (by kernel_rfl)) ?_
  intro W base args ds gs before hval0 hW hcnd hsz _
  have hval : ∀ (j : Nat) t v, Try.f6.params[j]? = some t → args[j]? = some v → Value.okWide Try.prog W .any base t v := hval0
  have hW' := hW
  obtain ⟨p, q, hA0, hV, rfl, hfz, hnd⟩ := hW
  have hA : DataW.TrodAll enc Try.prog W 0 (fun _ => true) true Try.f6.params.toList args.toList ds p := hA0
  rw [Try.params6] at hA hval
  obtain ⟨v0, vs0, d0, ds0, p0, q0, hargs, rfl, rfl, h0, r0⟩ := trodAll_cons hA
  obtain ⟨rfl, rfl, rfl⟩ := trodAll_nil r0
  obtain rfl : args = #[v0] := by cases args; simp_all
  obtain ⟨rfl, rfl⟩ := trodVars_none hV
  have k0 := h0
  have lt0 : ∀ x ∈ p0, x.block < W.heap.size := by obtain ⟨m, hm⟩ := k0; exact DataW.trod_lt m _ _ _ hm
  obtain ⟨sq0_, sn0_, sk0_, vs0_, ls0_, rfl, Z0_⟩ := open_listsZ (hval 0 31 v0 rfl rfl) h0 (fun n hn => by simpa using List.all_eq_true.1 hsz n (DataW.weights_mem_each (j := 0) (t := 31) (by kernel_rfl) rfl n hn))
  clear hA0 hval0
  refine (walk sq0_ sn0_ sk0_ vs0_ ls0_ Z0_).mono fun e W' ⟨he, bel⟩ => ?_
  subst he
  exact ⟨_, rfl, _, _, _, [], _, [], hW', trodAll_mk1 (shut_bool Try.underlying4 _), (trodAll_cons_mk (Below.trod laidOut (by kernel_rfl) (of_decide_eq_true (by kernel_rfl)) k0 bel lt0) trodAll_mk0), rfl, bel.frame _, fun h => by cases h⟩

theorem over : Rows.postOrderRow.holds Try.pinned (OpenSpec.ofChange Rows.postOrderSpec) :=
  OpenClaim.holds_of_wide 6 Try.f6 rfl rfl rfl rfl rfl rfl rfl ⟨rfl, rfl, rfl, rfl, rfl⟩ rfl rfl rfl rfl rfl (by kernel_rfl) Try.func6 (by kernel_rfl)
    (of_decide_eq_true (by kernel_rfl)) (by unfold Func.isWrapper; first | (rw [if_pos (by decide +kernel)]; kernel_rfl) | (rw [if_neg (by decide +kernel)]; exact ⟨rfl, rfl⟩))
    (fun os started H enc _ => lifted os started H enc)

theorem proved : Rows.PostOrderSaid := over
end Go.Proofs.Yteililgfjnoabaa.postOrder
namespace Go.Proofs.Yteililgfjnoabaa
theorem postOrder_holds : Rows.PostOrderSaid := postOrder.proved
#print axioms postOrder_holds
end Go.Proofs.Yteililgfjnoabaa
