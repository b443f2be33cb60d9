/-
  What stays while a post turns; estuarylaw08.alive.
-/
import Derived.Test.YteililgfjnoabaaPoF
import Derived.Test.YteililgfjnoabaaFrC
namespace Go.Proofs.Yteililgfjnoabaa
open Go.RowKit
set_option linter.unusedVariables false
set_option maxRecDepth 100000

theorem inc_nat (n : Nat) (h : n < 9223372036854775807) : inc (n : Int) = ((n + 1 : Nat) : Int) := by unfold inc wrap64; omega
theorem inc_0 : inc 0 = 1 := by unfold inc wrap64; decide
theorem inc_1 : inc 1 = 2 := by unfold inc wrap64; decide
/-- What lies in older memory. -/
theorem pst_old {W w : World} {base b : Nat} {v x : Value} {S : PS} {vs : List Value} {ls : List (List Nat)} (hP : Pt w base b v S) (hb : Below W.heap.size W w) (hW : W.heap.size ≤ base) (h : Ls W x vs ls) : StL b w v x vs ls :=
  fun w' v' k => h.keep (hb.trans ((hP.below k).mono hW))
/-- What is made anew. -/
theorem stb_new {w w' : World} {b n c : Nat} {v : Value} {m : List Nat} (hb : b < w.heap.size) (hv : ∀ k, v.ownBlock = some k → k < w.heap.size) (h : Sl w' (.slice (some ⟨w.heap.size, 0, none⟩) n c) m) : Stb b w' v (.slice (some ⟨w.heap.size, 0, none⟩) n c) m :=
  stb_far h fun g hg => by
    have hg' : w.heap.size = g := by simpa [Value.ownBlock] using hg
    refine ⟨by omega, fun e => ?_⟩
    have := hv g e
    omega
theorem stl_newG {w w' : World} {b n : Nat} {v : Value} (xs : List Value) (ls : List (List Nat)) (hb : b < w.heap.size) (hv : ∀ k, v.ownBlock = some k → k < w.heap.size) (hw : Below w.heap.size w w') (hB : Blk w' w.heap.size xs.toArray 34) (hn : xs.length = n) (hm : n ≤ maxLen) (hl : ls.length = n)
    (hE : ∀ (j : Nat) (x : Value) (l : List Nat), xs[j]? = some x → ls[j]? = some l → Stb b w v x l) : StL b w' v (.slice (some ⟨w.heap.size, 0, none⟩) n n) xs ls := by
  intro u v' k
  subst hn
  have hk := (mv_below v hw).trans k
  have h1 : w.heap.size ≠ b := by omega
  have h2 : v.ownBlock ≠ some w.heap.size := fun e => by have := hv _ e; omega
  have hBu : Blk u w.heap.size xs.toArray 34 := by unfold Blk; rw [k.other _ hB.lt h1 h2]; exact hB
  refine ⟨hl.symm, ⟨_, _, rfl, Nat.le_refl _, hm, fun h0 => ⟨_, 0, rfl, hBu.lt, fun j x hx => ?_⟩⟩, fun j x l hx hl => hE j x l hx hl _ _ hk⟩
  rw [Nat.zero_add, hBu.cell j]
  simpa using hx
theorem eachS3 {b : Nat} {w : World} {v x x2 x3 : Value} {l l2 l3 : List Nat} (h : Stb b w v x l) (h2 : Stb b w v x2 l2) (h3 : Stb b w v x3 l3) : ∀ (j : Nat) (y : Value) (m : List Nat), [x, x2, x3][j]? = some y → [l, l2, l3][j]? = some m → Stb b w v y m := by
  intro j y m hx hm
  match j, hx, hm with
  | 0, hx, hm => simp at hx hm; subst hx; subst hm; exact h
  | 1, hx, hm => simp at hx hm; subst hx; subst hm; exact h2
  | 2, hx, hm => simp at hx hm; subst hx; subst hm; exact h3
theorem Pt.vlt {W : World} {base b : Nat} {v : Value} {S : PS} (h : Pt W base b v S) : ∀ k, v.ownBlock = some k → k < W.heap.size := fun k e => (h.own.lt k e).2
/-- What an answer holds stays while the post turns. -/
theorem Mb.mv {W W' : World} {base base' b : Nat} {v v' x : Value} {S : PS} {l : List Nat} (h : Mb W base' x l) (hP : Pt W base b v S) (m : Mv b W W' v v') : Mb W' base' x l := by
  refine h.at fun g hg => ?_
  obtain ⟨g', cap, cur, rfl, hb, hgg, -⟩ := h
  have e : g' = g := by simpa [Value.ownBlock] using hg
  subst e
  refine m.other _ (Array.getElem?_eq_some_iff.1 hgg).1 (fun e => ?_) (fun e => ?_)
  · have h1 := hP.blk
    unfold Blk at h1
    rw [← e, hgg] at h1
    cases h1
  · rcases hP.own.2 with ⟨h2, _⟩ | ⟨g2, cap2, cur2, h2, _, hg2, _⟩
    · rw [h2] at e; cases e
    · rw [h2] at e
      have e1 : g2 = g' := by simpa [Value.ownBlock] using e
      subst e1
      rw [hgg] at hg2
      cases hg2
theorem below_markP {w w1 w2 : World} (h : Below w.heap.size w w1) (k : Chg w.heap.size w1 w2) : Below w.heap.size w w2 := h.trans (k.below (Nat.le_refl _))
theorem str_a : strB [97] = ⟨#[97]⟩ := by decide +kernel
theorem str_b : strB [98] = ⟨#[98]⟩ := by decide +kernel
set_option maxHeartbeats 2000000 in
theorem alive8_any (w : World) : Calls Try.prog 9 #[] w fun e w' => e = .returned (.bool true) ∧ Below w.heap.size w w' := by
  have HXa : Hid (strB [97] = ⟨#[97]⟩) := str_a
  have HXb : Hid (strB [98] = ⟨#[98]⟩) := str_b
  go_enter Try.func9, Try.ntmps9
  go_upto_region 2 with (go_at_call 11; refine (pnew_any _).mono ?_; rintro e W1 ⟨rfl, h1, b1⟩)
  have mv1 : Hid (Mv w.heap.size W1 W1 (.slice none 0 0) (.slice none 0 0)) := Mv.refl _ _ _
  go_wp2_with (first
    | (have mk := t4; clear mk; refine bs_ls (by kernel_rfl) rfl [_, _, _] [[97], [98], [99]] (by simp only [List.map_toArray, List.map_cons, List.map_nil]; rfl) (bsl3 _ _ _ _ _ _ _ _ _ _) rfl (by decide) rfl (each3 t2.sl t3.sl t4.sl) ?_; intro W5 ls5 b5 k5; have h5 := h4.keep b5; have st5 := stl_newG (n := 3) [_, _, _] [[97], [98], [99]] h4.blk.lt h4.vlt b5 k5 rfl (by decide) rfl (eachS3 t2 t3 t4); go_frame)
    | (refine cv_t (by kernel_rfl) rfl rfl n4 ?_; intro X4 s4 k4; have c4 := below_markP b4 k4; have h4 := h3.keep c4; have t4 := stb_new h3.blk.lt h3.vlt s4; replace t2 := t2.keep c4; replace t3 := t3.keep c4; have mv4 : Hid (Mv w.heap.size W1 X4 (.slice none 0 0) (.slice none 0 0)) := mv3.out.trans (mv_below _ c4); clear n4 b4 k4 s4 c4 h3 mv3; go_frame)
    | (have mk := t3; clear mk; refine bs_by (by kernel_rfl) rfl [99] (vs := #[(0, .int .u8 99)]) (by simp only [List.map_toArray, List.map_cons, List.map_nil]; rfl) (bsb1 99 _) rfl (by decide) ?_; intro W4 n4 b4 z4; clear z4; go_frame)
    | (refine cv_t (by kernel_rfl) rfl rfl n3 ?_; intro X3 s3 k3; have c3 := below_markP b3 k3; have h3 := h2.keep c3; have t3 := stb_new h2.blk.lt h2.vlt s3; replace t2 := t2.keep c3; have mv3 : Hid (Mv w.heap.size W1 X3 (.slice none 0 0) (.slice none 0 0)) := mv2.out.trans (mv_below _ c3); clear n3 b3 k3 s3 c3 h2 mv2; go_frame)
    | (have mk := t2; clear mk; refine bs_by (by kernel_rfl) rfl [98] (vs := #[(0, .int .u8 98)]) (by simp only [List.map_toArray, List.map_cons, List.map_nil]; rfl) (bsb1 98 _) rfl (by decide) ?_; intro W3 n3 b3 z3; clear z3; go_frame)
    | (refine cv_t (by kernel_rfl) rfl rfl n2 ?_; intro X2 s2 k2; have c2 := below_markP b2 k2; have h2 := h1.keep c2; have t2 := stb_new h1.blk.lt h1.vlt s2; have mv2 : Hid (Mv w.heap.size W1 X2 (.slice none 0 0) (.slice none 0 0)) := mv1.out.trans (mv_below _ c2); clear n2 b2 k2 s2 c2 mv1; go_frame)
    | (refine bs_by (by kernel_rfl) rfl [97] (vs := #[(0, .int .u8 97)]) (by simp only [List.map_toArray, List.map_cons, List.map_nil]; rfl) (bsb1 97 _) rfl (by decide) ?_; intro W2 n2 b2 z2; clear z2; go_frame))
  refine (send_any _ _ _ _ _ _ _ _ _ _ h5 st5 (by unfold Byt; decide)).mono ?_
  rintro e W6 ⟨rfl, v6, h6, m6⟩
  have e6 := h1.below (mv4.out.trans ((mv_below _ b5).trans m6))
  have h6' : Pt W6 w.heap.size w.heap.size v6 ⟨[[97], [98], [99]], 0, 0⟩ := h6
  have hl6 : (puts ps0 [[97], [98], [99]]).l.length = 3 := rfl
  rw [hl6]
  clear h6 m6 st5 k5 ls5 t2 t3 t4 h4 h5 b5 h1 hl6 mv4
  go_upto_region 5 with (go_at_call 18; refine (deliver_yes _ _ 1 _ _ [98] _ h6' rfl).mono ?_; rintro e W7 ⟨x7, v7, rfl, M7, h7, m7⟩)
  have h7' : Pt W7 w.heap.size w.heap.size v7 ⟨[[97], [99]], 0, 1⟩ := by have := h7; rwa [inc_0] at this
  have e7 := e6.trans (h6'.below m7)
  clear h7 m7 h6' e6
  go_upto_region 6 with (go_at_call 20; refine (copy_yes _ _ 0 _ _ [97] _ h7' rfl).mono ?_; rintro e W8 ⟨rfl, v8, h8, m8⟩)
  have h8' : Pt W8 w.heap.size w.heap.size v8 ⟨[[97], [99], [97]], 0, 1⟩ := h8
  have e8 := e7.trans (h7'.below m8)
  have M8 := M7.mv h7' m8
  clear h8 m8 h7' e7 M7
  go_upto_region 7 with (go_at_call 18; refine (deliver_yes _ _ 2 _ _ [97] _ h8' rfl).mono ?_; rintro e W9 ⟨x9, v9, rfl, N9, h9, m9⟩)
  have h9' : Pt W9 w.heap.size w.heap.size v9 ⟨[[97], [99]], 0, 2⟩ := by have := h9; rwa [inc_1] at this
  have e9 := e8.trans (h8'.below m9)
  have M9 := M8.mv h8' m9
  have hcb := sl_str M9.sl
  have hca := sl_str N9.sl
  rw [HXb.out] at hcb
  rw [HXa.out] at hca
  clear h9 m9 h8' e8 M8
  go_wp2_with fail
  refine (drop_yes _ _ 0 _ _ _ h9' (by decide)).mono ?_
  rintro e W10 ⟨rfl, v10, h10, m10⟩
  have h10' : Pt W10 w.heap.size w.heap.size v10 ⟨[[99]], 1, 2⟩ := by have := h10; rwa [inc_0] at this
  have e10 := e9.trans (h9'.below m10)
  clear h10 m10 h9' e9 hcb hca M9 N9
  obtain ⟨q, cap, ev, -⟩ := h10'.form
  have d2 := h10'.tri.c2
  rw [ev] at d2
  have d0 := h10'.tri.c0
  have d1 := h10'.tri.c1
  go_wp2_with (first
    | (go_at_call 21; refine (plen_any _ _ _ _ _ d2).mono ?_; rintro e Y ⟨rfl, hY⟩; subst Y)
    | (go_at_call 22; refine (plost_any _ _ _ d0).mono ?_; rintro e Y ⟨rfl, hY⟩; subst Y)
    | (go_at_call 23; refine (ptaken_any _ _ _ d1).mono ?_; rintro e Y ⟨rfl, hY⟩; subst Y))
  go_ret
  exact ⟨rfl, b1.trans e10⟩
end Go.Proofs.Yteililgfjnoabaa
