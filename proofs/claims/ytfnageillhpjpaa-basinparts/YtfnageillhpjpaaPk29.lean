/-
  Two cells joined: cell.both.
-/
import Derived.Test.YtfnageillhpjpaaPk10
import Derived.Lib.MinMax
import Derived.Deep.CutRange
import Derived.Test.YtfnageillhpjpaaPk22
namespace Go.Proofs.Ytfnageillhpjpaa
set_option maxRecDepth 100000
open Go.RowKit Go.Shelf
set_option linter.unusedVariables false
attribute [local go_sem] Oper.semAt_some

/-- Each number fits its kind. -/
def Wf (c : Nat → Int) : Prop := (0 ≤ c 2 ∧ c 2 ≤ 18446744073709551615) ∧ ∀ i, i < 74 → i ≠ 2 → -9223372036854775808 ≤ c i ∧ c i ≤ 9223372036854775807

theorem cup_same (f : Nat → Int) (p : Nat) (v : Int) : cup f p v p = v := by simp [cup]
theorem cup_ne (f : Nat → Int) (p i : Nat) (v : Int) (h : i ≠ p) : cup f p v i = f i := by simp [cup, h]

theorem Blk.nine {W : World} {b : Nat} {c : Nat → Int} {t : TypeId} (h : Blk W b (CA c) t) :
    W.cell? ⟨b, 0, none⟩ = some (.int .i64 (c 0)) ∧ W.cell? ⟨b, 1, none⟩ = some (.int .i64 (c 1)) ∧ W.cell? ⟨b, 2, none⟩ = some (.int .u64 (c 2)) ∧ W.cell? ⟨b, 3, none⟩ = some (.int .i64 (c 3)) ∧ W.cell? ⟨b, 4, none⟩ = some (.int .i64 (c 4)) ∧
    W.cell? ⟨b, 5, none⟩ = some (.int .i64 (c 5)) ∧ W.cell? ⟨b, 6, none⟩ = some (.int .i64 (c 6)) ∧ W.cell? ⟨b, 7, none⟩ = some (.int .i64 (c 7)) ∧ W.cell? ⟨b, 8, none⟩ = some (.int .i64 (c 8)) :=
  ⟨h.at (CA_at64 c 0 (by omega) (by omega)), h.at (CA_at64 c 1 (by omega) (by omega)), h.at (CA_at2 c), h.at (CA_at64 c 3 (by omega) (by omega)), h.at (CA_at64 c 4 (by omega) (by omega)), h.at (CA_at64 c 5 (by omega) (by omega)), h.at (CA_at64 c 6 (by omega) (by omega)), h.at (CA_at64 c 7 (by omega) (by omega)), h.at (CA_at64 c 8 (by omega) (by omega))⟩
theorem Blk.setN {W : World} {b : Nat} {c : Nat → Int} {t : TypeId} (h : Blk W b (CA c) t) (i : Nat) (v : Int) (k : IntKind) (hi : i < 74) (hk : k = ck i) : Blk (W.setCell ⟨b, i, none⟩ (.int k v)) b (CA (cup c i v)) t := by
  rw [← CA_set c i v k hi hk]; exact h.set i _

/-- Behind the numbers that aren't of the Hist. -/
def headF (a b : Nat → Int) : Nat → Int := fun i =>
  if i = 0 then wrap64 (a 0 + b 0)
  else if i = 1 then wh (wv (a 1) (a 2) + wv (b 1) (b 2))
  else if i = 2 then wl (wv (a 1) (a 2) + wv (b 1) (b 2))
  else if i = 3 then min (a 3) (b 3)
  else if i = 4 then max (a 4) (b 4)
  else if i < 9 then (if ltr (b 5) (b 6) (b 7) (b 8) (a 5) (a 6) (a 7) (a 8) then b i else a i)
  else a i

/-- The pairs' numbers added at their places. -/
def addP (f : Nat → Int) : List Pl → Nat → Int
  | [] => f
  | p :: r => addP (cup f (9 + p.1.1) (wrap64 (f (9 + p.1.1) + p.1.2))) r
theorem addP_snoc (x : Pl) : ∀ (pre : List Pl) (f : Nat → Int), addP f (pre ++ [x]) = cup (addP f pre) (9 + x.1.1) (wrap64 (addP f pre (9 + x.1.1) + x.1.2))
  | [], f => rfl
  | p :: r, f => addP_snoc x r _

def bothF (a b : Nat → Int) : Nat → Int := fun i => if i < 9 then headF a b i else wrap64 (a i + b i)
theorem addP_prs_at (f h : Nat → Int) (hb) : ∀ k, k ≤ 65 → ∀ i, addP f (prs h hb k) i = if 9 ≤ i ∧ i < 9 + k ∧ h (i - 9) ≠ 0 then wrap64 (f i + h (i - 9)) else f i
  | 0, _, i => by rw [if_neg (by omega)]; rfl
  | k + 1, hk, i => by
    have ih := addP_prs_at f h hb k (by omega)
    rw [prs, dif_pos (by omega)]
    by_cases z : h k = 0
    · rw [if_pos z, ih i]
      by_cases c : i = 9 + k
      · subst c; rw [if_neg (by omega), if_neg (by rw [Nat.add_sub_cancel_left]; simp [z])]
      · by_cases d : 9 ≤ i ∧ i < 9 + k ∧ h (i - 9) ≠ 0
        · rw [if_pos d, if_pos ⟨d.1, by omega, d.2.2⟩]
        · rw [if_neg d, if_neg (by intro e; exact d ⟨e.1, by omega, e.2.2⟩)]
    · rw [if_neg z, addP_snoc]
      dsimp only
      by_cases c : i = 9 + k
      · subst c
        rw [cup_same, ih, if_neg (by omega), if_pos ⟨by omega, by omega, by rw [Nat.add_sub_cancel_left]; exact z⟩, Nat.add_sub_cancel_left]
      · rw [cup_ne _ _ _ _ c, ih i]
        by_cases d : 9 ≤ i ∧ i < 9 + k ∧ h (i - 9) ≠ 0
        · rw [if_pos d, if_pos ⟨d.1, by omega, d.2.2⟩]
        · rw [if_neg d, if_neg (by intro e; exact d ⟨e.1, by omega, e.2.2⟩)]
theorem addP_prs (a b : Nat → Int) (ha : Wf a) (hw : Wf b) (hb : ∀ i, i < 65 → -9223372036854775808 ≤ b (9 + i) ∧ b (9 + i) ≤ 9223372036854775807) : ∀ i, i < 74 → addP (headF a b) (prs (fun i => b (9 + i)) hb 65) i = bothF a b i := by
  intro i hi
  rw [addP_prs_at _ _ _ 65 (by omega)]
  unfold bothF
  by_cases c : i < 9
  · rw [if_neg (by omega), if_pos c]
  · rw [if_neg c, show 9 + (i - 9) = i by omega]
    have e : headF a b i = a i := by unfold headF; rw [if_neg (by omega), if_neg (by omega), if_neg (by omega), if_neg (by omega), if_neg (by omega), if_neg c]
    rw [e]
    by_cases z : b i = 0
    · rw [if_neg (by simp [z]), z, Int.add_zero]
      have := ha.2 i hi (by omega)
      unfold wrap64; omega
    · rw [if_pos ⟨by omega, by omega, z⟩]

theorem head_no (a b c4 : Nat → Int) (hc4 : c4 = cup (cup (cup (cup (cup a 0 (wrap64 (a 0 + b 0))) 1 (wh (wv (a 1) (a 2) + wv (b 1) (b 2)))) 2 (wl (wv (a 1) (a 2) + wv (b 1) (b 2)))) 3 (min (a 3) (b 3))) 4 (max (a 4) (b 4)))
    (hl : ltr (b 5) (b 6) (b 7) (b 8) (a 5) (a 6) (a 7) (a 8) = false) : ∀ i, i < 74 → c4 i = headF a b i := by
  intro i hi
  subst hc4
  unfold headF cup
  rw [hl]
  by_cases e4 : i = 4
  · subst e4; simp
  by_cases e3 : i = 3
  · subst e3; simp
  by_cases e2 : i = 2
  · subst e2; simp
  by_cases e1 : i = 1
  · subst e1; simp
  by_cases e0 : i = 0
  · subst e0; simp
  simp [e0, e1, e2, e3, e4]
theorem head_yes (a b c4 : Nat → Int) (hc4 : c4 = cup (cup (cup (cup (cup a 0 (wrap64 (a 0 + b 0))) 1 (wh (wv (a 1) (a 2) + wv (b 1) (b 2)))) 2 (wl (wv (a 1) (a 2) + wv (b 1) (b 2)))) 3 (min (a 3) (b 3))) 4 (max (a 4) (b 4)))
    (hl : ltr (b 5) (b 6) (b 7) (b 8) (a 5) (a 6) (a 7) (a 8) = true) : ∀ i, i < 74 → cup (cup (cup (cup c4 5 (b 5)) 6 (b 6)) 7 (b 7)) 8 (b 8) i = headF a b i := by
  intro i hi
  subst hc4
  unfold headF cup
  rw [hl]
  by_cases e8 : i = 8
  · subst e8; simp
  by_cases e7 : i = 7
  · subst e7; simp
  by_cases e6 : i = 6
  · subst e6; simp
  by_cases e5 : i = 5
  · subst e5; simp
  by_cases e4 : i = 4
  · subst e4; simp
  by_cases e3 : i = 3
  · subst e3; simp
  by_cases e2 : i = 2
  · subst e2; simp
  by_cases e1 : i = 1
  · subst e1; simp
  by_cases e0 : i = 0
  · subst e0; simp
  have : ¬ i < 9 := by omega
  simp [e0, e1, e2, e3, e4, e5, e6, e7, e8, this]

theorem blk_kept {W W' : World} {row : Option Nat} {b : Nat} {vs : Array Value} {t : TypeId} (h : Blk W b vs t) (hg : W.grownBy W' row) (hr : ∀ r, row = some r → ∃ o : Obj, W.heap[r]? = some o ∧ o.isCells = false) : Blk W' b vs t :=
  (grownBy_keeps_cells hg hr h rfl).trans h

set_option maxHeartbeats 1000000 in
theorem both_any (a b : Nat → Int) (w : World) (ha : Wf a) (hb : Wf b) :
    Calls Try.prog 64 #[.agg (CA a), .agg (CA b)] w fun e w' => e = .returned (.agg (CA (bothF a b))) ∧ Below w.heap.size w w' := by
  refine (callsIn_wide (n := 3)).1 (callsIn_of_wp_marks (n := 3) Try.func64 rfl trivial (wpIn_wide.2 ?_))
  simp only [Try.ntmps64, List.size_toArray, List.length_cons, List.length_nil, Nat.reduceAdd, Nat.reduceSub, Array.replicate_succ, Array.replicate_zero, List.push_toArray, List.append_toArray, List.nil_append, List.cons_append]
  have cs := cup_same
  have cn := cup_ne
  go_wp2_with (first
    | (refine al_cell rfl rfl ?_
       intro W4 hW4 hR hg4
       have hA : Blk W4 w.heap.size (CA a) 54 := by rw [hW4]; exact ((Blk.new w _ _).alloc _).alloc _
       have hB : Blk W4 (w.heap.size + 1) (CA b) 54 := by rw [hW4]; refine Blk.alloc ?_ _; simpa using Blk.new (w.alloc _) (CA b) 54
       have hw4 : Below w.heap.size w W4 := by rw [hW4]; exact ab_alloc (ab_alloc (ab_alloc (Below.refl _ _) _) _) _
       clear hW4 hg4
       obtain ⟨a0, a1, a2, a3, a4, a5, a6, a7, a8⟩ := hA.nine
       obtain ⟨b0, b1, b2, b3, b4, b5, b6, b7, b8⟩ := hB.nine
       have fa := hA.frozen
       have hR : Blk W4 (w.heap.size + 1 + 1) (CA zc) 54 := by simpa using hR))
  have w1 := ha.2 1 (by omega) (by omega)
  have w2 := hb.2 1 (by omega) (by omega)
  refine (add_any _ _ _ _ _ w1.1 w1.2 ha.1.1 ha.1.2 w2.1 w2.2 hb.1.1 hb.1.2).mono ?_
  rintro e W5 ⟨rfl, h5⟩
  have C4 := chg_set W4 w.heap.size 0 (.int .i64 (wrap64 (a 0 + b 0)))
  have hA5 := (hA.setN 0 (wrap64 (a 0 + b 0)) .i64 (by omega) rfl).keep h5
  have hB5 := (hB.chg C4 (by omega)).keep h5
  have hR5 := (hR.chg C4 (by omega)).keep h5
  have hw5 := ab_trans (ab_chg hw4 C4 (by omega)) h5
  clear hA hB hR hw4 C4 h5 a0 a1 a2 a3 a4 a5 a6 a7 a8 b0 b1 b2 b3 b4 b5 b6 b7 b8 fa
  obtain ⟨a0, a1, a2, a3, a4, a5, a6, a7, a8⟩ := hA5.nine
  obtain ⟨b0, b1, b2, b3, b4, b5, b6, b7, b8⟩ := hB5.nine
  have fa := hA5.frozen
  simp only [cs, cn _ _ _ _ (show 1 ≠ 0 by omega), cn _ _ _ _ (show 2 ≠ 0 by omega), cn _ _ _ _ (show 3 ≠ 0 by omega), cn _ _ _ _ (show 4 ≠ 0 by omega), cn _ _ _ _ (show 5 ≠ 0 by omega), cn _ _ _ _ (show 6 ≠ 0 by omega), cn _ _ _ _ (show 7 ≠ 0 by omega), cn _ _ _ _ (show 8 ≠ 0 by omega)] at a0 a1 a2 a3 a4 a5 a6 a7 a8
  go_wp2_with fail
  refine (later_any _ _ _ _ _ _ _ _ _).mono ?_
  rintro e W6 ⟨rfl, h6⟩
  obtain ⟨c4, hc4⟩ : ∃ c4, c4 = cup (cup (cup (cup (cup a 0 (wrap64 (a 0 + b 0))) 1 (wh (wv (a 1) (a 2) + wv (b 1) (b 2)))) 2 (wl (wv (a 1) (a 2) + wv (b 1) (b 2)))) 3 (min (a 3) (b 3))) 4 (max (a 4) (b 4)) := ⟨_, rfl⟩
  have hA6 : Blk W6 w.heap.size (CA c4) 54 := by
    rw [hc4]; exact ((((hA5.setN 1 _ .i64 (by omega) rfl).setN 2 _ .u64 (by omega) rfl).setN 3 _ .i64 (by omega) rfl).setN 4 _ .i64 (by omega) rfl).keep h6
  have C5 := (((chg_set W5 w.heap.size 1 (.int .i64 (wh (wv (a 1) (a 2) + wv (b 1) (b 2))))).trans (chg_set _ w.heap.size 2 (.int .u64 (wl (wv (a 1) (a 2) + wv (b 1) (b 2)))))).trans (chg_set _ w.heap.size 3 (.int .i64 (min (a 3) (b 3))))).trans (chg_set _ w.heap.size 4 (.int .i64 (max (a 4) (b 4))))
  have hB6 := (hB5.chg C5 (by omega)).keep h6
  have hR6 := (hR5.chg C5 (by omega)).keep h6
  have hw6 := ab_trans (ab_chg hw5 C5 (by omega)) h6
  clear hA5 hB5 hR5 hw5 C5 h6 a0 a1 a2 a3 a4 a5 a6 a7 a8 b0 b1 b2 b3 b4 b5 b6 b7 b8 fa
  have cl : ∀ i, 5 ≤ i → c4 i = a i := by intro i hi; rw [hc4, cn _ _ _ _ (by omega), cn _ _ _ _ (by omega), cn _ _ _ _ (by omega), cn _ _ _ _ (by omega), cn _ _ _ _ (by omega)]
  obtain ⟨b0, b1, b2, b3, b4, b5, b6, b7, b8⟩ := hB6.nine
  obtain ⟨a0, a1, a2, a3, a4, a5, a6, a7, a8⟩ := hA6.nine
  have fa := hA6.frozen
  have fb := hB6.frozen
  have hbh : ∀ i, i < 65 → -9223372036854775808 ≤ b (9 + i) ∧ b (9 + i) ≤ 9223372036854775807 := fun i hi => hb.2 (9 + i) (by omega) (by omega)
  rw [cl 5 (by omega)] at a5; rw [cl 6 (by omega)] at a6; rw [cl 7 (by omega)] at a7; rw [cl 8 (by omega)] at a8
  obtain ⟨L, hL⟩ : ∃ L, L = ltr (b 5) (b 6) (b 7) (b 8) (a 5) (a 6) (a 7) (a 8) := ⟨_, rfl⟩
  rw [← hL]
  have HH : Hid (c4 = _) := hc4
  have HL : Hid (ltr (b 5) (b 6) (b 7) (b 8) (a 5) (a 6) (a 7) (a 8) = L) := hL.symm
  clear hL hc4 cl cs cn
  cases L
  case' false =>
    have hA7 : Blk W6 w.heap.size (CA (headF a b)) 54 := by
      rw [← CA_congr (head_no a b c4 HH.out HL.out)]; exact hA6
    go_upto_region 7 with fail
    obtain ⟨W7, rfl⟩ : ∃ W7, W7 = W6 := ⟨_, rfl⟩
    have hB7 := hB6
    have hR7 := hR6
    have hw7 := hw6
  case' true =>
    have hA7 := (((hA6.setN 5 (b 5) .i64 (by omega) rfl).setN 6 (b 6) .i64 (by omega) rfl).setN 7 (b 7) .i64 (by omega) rfl).setN 8 (b 8) .i64 (by omega) rfl
    rw [CA_congr (head_yes a b c4 HH.out HL.out)] at hA7
    have C6 := (((chg_set W6 w.heap.size 5 (.int .i64 (b 5))).trans (chg_set _ w.heap.size 6 (.int .i64 (b 6)))).trans (chg_set _ w.heap.size 7 (.int .i64 (b 7)))).trans (chg_set _ w.heap.size 8 (.int .i64 (b 8)))
    have hB7 := hB6.chg C6 (by omega)
    have hR7 := hR6.chg C6 (by omega)
    have hw7 := ab_chg hw6 C6 (by omega)
    clear C6
    go_upto_region 7 with fail
    generalize (((W6.setCell ⟨w.heap.size, 5, none⟩ (.int .i64 (b 5))).setCell ⟨w.heap.size, 6, none⟩ (.int .i64 (b 6))).setCell ⟨w.heap.size, 7, none⟩ (.int .i64 (b 7))).setCell ⟨w.heap.size, 8, none⟩ (.int .i64 (b 8)) = W7 at hA7 hB7 hR7 hw7 ⊢
  all_goals
    clear hA6 hB6 hR6 hw6 a0 a1 a2 a3 a4 a5 a6 a7 a8 b0 b1 b2 b3 b4 b5 b6 b7 b8 fa fb
    go_wp2_with (refine ld_hist9 rfl rfl hB7 rfl ?_)
    refine (pairs_any _ _).mono ?_
    rintro e W8 ⟨rfl, h8⟩
    have hA8 : Blk W8 w.heap.size (CA (addP (headF a b) [])) 54 := by rw [h8]; exact hA7.alloc _
    have hR8 : Blk W8 (w.heap.size + 1 + 1) (CA zc) 54 := by rw [h8]; exact hR7.alloc _
    have hw8 : Below w.heap.size w W8 := by rw [h8]; exact ab_alloc hw7 _
    have hP8 : Blk W8 W7.heap.size (HA fun i => b (9 + i)) 52 := by rw [h8]; exact Blk.new _ _ _
    have hz : w.heap.size + 3 ≤ W8.heap.size := by have := hR8.lt; omega
    clear h8 hA7 hR7 hw7 hB7
    dsimp only
    rename_i k1 hk1 k hk
    refine hk _ _ ?_
    show k1 _ _
    refine hk1 _ _ ?_
    refine (wpIn_wide (n := 3)).1 ?_
    gi_wp2
    refine wpIn_rangeFunc_ownF rfl (by omega) (gf := 88) (lb := #[.pointer (some ⟨W7.heap.size, 0, none⟩)]) rfl trivial (enters_of Try.func88 (by kernel_rfl) rfl)
      (pairs_stops 2 (by omega) W7.heap.size (fun i => b (9 + i)) hbh W8 hP8 (fun _ _ => True)) (fun _ _ => trivial) (fun _ _ _ _ _ _ _ _ => trivial) (Below.refl _ _) (fun _ => rfl)
      (fun pre W => (Blk W w.heap.size (CA (addP (headF a b) pre)) 54 ∧ Blk W (w.heap.size + 1 + 1) (CA zc) 54) ∧ Below w.heap.size w W)
      (fun _ _ _ => False)
      (OwnFrom.and (Own.from (fun s A B row hs hg hr => ⟨blk_kept hs.1 hg hr, blk_kept hs.2 hg hr⟩) _) (ownFrom_below (Nat.le_refl _) (by omega)))
      (fun _ _ _ _ _ hs _ _ => hs)
      ⟨⟨hA8, hR8⟩, hw8⟩ ?_ ?_ ?_ ?_ ?_
    rotate_left
    · intro l x W K hK
      gi_wp2
      exact hK
    · rintro l pre ⟨⟨p, v⟩, hp, hv⟩ W ⟨⟨hA, hR⟩, hw⟩ _
      dsimp only at hp hv
      have hpi : (p : Int) < 65 := by omega
      have hc := hA.at (CA_at64 _ (9 + p) (by omega) (by omega))
      have hf := hA.frozen (9 + p)
      gi_wp2
      exact ⟨KeepsOthers.setCell _ _ _, trivial, ⟨by rw [addP_snoc]; exact hA.setN (9 + p) _ .i64 (by omega) (by unfold ck; rw [if_neg (by omega)]), hR.chg (chg_set _ _ _ _) (by omega)⟩, hw.setCell (p := ⟨w.heap.size, 9 + p, none⟩) (Nat.le_refl _) _⟩
    · rintro D ys W hD rfl ⟨⟨hA, hR⟩, hw⟩ hK
      rw [CA_congr (addP_prs a b ha hb hbh)] at hA
      go_wp2_with (first | (refine ld_cell rfl rfl hA rfl ?_) | (refine st_cell rfl rfl hR rfl rfl ?_; intro W9 hR9 C9))
      have hK9 := (C9.other D (by omega)).trans hK
      have hw9 := ab_chg hw C9 (by omega)
      refine ⟨by simp, .inl ⟨_, _, rfl, run_takeDeferred hK9, ?_⟩⟩
      exact ⟨_, results_cell_row rfl _ _ _ 54 _ (0, 0) _ rfl (blk_kept hR9 (grownBy_putObj' _ D (.deferred none)) (fun r e => by cases e; exact ⟨_, hK9, rfl⟩)) Try.underlying54 rfl (info_cell _), rfl, hw9.trans (belowK_b (w := w) (Nat.le_refl _) W9 D _ _ (by omega) hK9 rfl rfl)⟩
    · rintro D c pre W _ _ h _
      exact h.elim
end Go.Proofs.Ytfnageillhpjpaa
