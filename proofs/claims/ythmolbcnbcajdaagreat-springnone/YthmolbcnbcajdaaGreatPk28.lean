/-
  Two cells joined: cell.both.
-/
import Derived.Test.YthmolbcnbcajdaaGreatPk09
import Derived.Lib.MinMax
import Derived.Deep.CutRange
import Derived.Test.YthmolbcnbcajdaaGreatPk20
namespace Go.Proofs.YthmolbcnbcajdaaGreat
set_option maxRecDepth 100000
open Go.RowKit Go.Shelf
set_option linter.unusedVariables false
attribute [local go_sem] Oper.semAt_some

/-- Each number fits its kind. -/
def Wf (c : Nat → Int) : Prop := (0 ≤ c 2 ∧ c 2 ≤ 18446744073709551615) ∧ ∀ i, i < 74 → i ≠ 2 → -9223372036854775808 ≤ c i ∧ c i ≤ 9223372036854775807

theorem cup_same (f : Nat → Int) (p : Nat) (v : Int) : cup f p v p = v := by simp [cup]
theorem cup_ne (f : Nat → Int) (p i : Nat) (v : Int) (h : i ≠ p) : cup f p v i = f i := by simp [cup, h]

theorem Blk.nine {W : World} {b : Nat} {c : Nat → Int} {t : TypeId} (h : Blk W b (CA c) t) :
    W.cell? ⟨b, 0, none⟩ = some (.int .i64 (c 0)) ∧ W.cell? ⟨b, 1, none⟩ = some (.int .i64 (c 1)) ∧ W.cell? ⟨b, 2, none⟩ = some (.int .u64 (c 2)) ∧ W.cell? ⟨b, 3, none⟩ = some (.int .i64 (c 3)) ∧ W.cell? ⟨b, 4, none⟩ = some (.int .i64 (c 4)) ∧
    W.cell? ⟨b, 5, none⟩ = some (.int .i64 (c 5)) ∧ W.cell? ⟨b, 6, none⟩ = some (.int .i64 (c 6)) ∧ W.cell? ⟨b, 7, none⟩ = some (.int .i64 (c 7)) ∧ W.cell? ⟨b, 8, none⟩ = some (.int .i64 (c 8)) :=
  ⟨h.at (CA_at64 c 0 (by omega) (by omega)), h.at (CA_at64 c 1 (by omega) (by omega)), h.at (CA_at2 c), h.at (CA_at64 c 3 (by omega) (by omega)), h.at (CA_at64 c 4 (by omega) (by omega)), h.at (CA_at64 c 5 (by omega) (by omega)), h.at (CA_at64 c 6 (by omega) (by omega)), h.at (CA_at64 c 7 (by omega) (by omega)), h.at (CA_at64 c 8 (by omega) (by omega))⟩
theorem Blk.setN {W : World} {b : Nat} {c : Nat → Int} {t : TypeId} (h : Blk W b (CA c) t) (i : Nat) (v : Int) (k : IntKind) (hi : i < 74) (hk : k = ck i) : Blk (W.setCell ⟨b, i, none⟩ (.int k v)) b (CA (cup c i v)) t := by
  rw [← CA_set c i v k hi hk]; exact h.set i _

/-- Behind the numbers that aren't of the Hist. -/
def headF (a b : Nat → Int) : Nat → Int := fun i =>
  if i = 0 then wrap64 (a 0 + b 0)
  else if i = 1 then wh (wv (a 1) (a 2) + wv (b 1) (b 2))
  else if i = 2 then wl (wv (a 1) (a 2) + wv (b 1) (b 2))
  else if i = 3 then min (a 3) (b 3)
  else if i = 4 then max (a 4) (b 4)
  else if i < 9 then (if ltr (b 5) (b 6) (b 7) (b 8) (a 5) (a 6) (a 7) (a 8) then b i else a i)
  else a i

/-- The pairs' numbers added at their places. -/
def addP (f : Nat → Int) : List Pl → Nat → Int
  | [] => f
  | p :: r => addP (cup f (9 + p.1.1) (wrap64 (f (9 + p.1.1) + p.1.2))) r
theorem addP_snoc (x : Pl) : ∀ (pre : List Pl) (f : Nat → Int), addP f (pre ++ [x]) = cup (addP f pre) (9 + x.1.1) (wrap64 (addP f pre (9 + x.1.1) + x.1.2))
  | [], f => rfl
  | p :: r, f => addP_snoc x r _

def bothF (a b : Nat → Int) : Nat → Int := fun i => if i < 9 then headF a b i else wrap64 (a i + b i)
theorem addP_prs_at (f h : Nat → Int) (hb) : ∀ k, k ≤ 65 → ∀ i, addP f (prs h hb k) i = if 9 ≤ i ∧ i < 9 + k ∧ h (i - 9) ≠ 0 then wrap64 (f i + h (i - 9)) else f i
  | 0, _, i => by rw [if_neg (by omega)]; rfl
  | k + 1, hk, i => by
    have ih := addP_prs_at f h hb k (by omega)
    rw [prs, dif_pos (by omega)]
    by_cases z : h k = 0
    · rw [if_pos z, ih i]
      by_cases c : i = 9 + k
      · subst c; rw [if_neg (by omega), if_neg (by rw [Nat.add_sub_cancel_left]; simp [z])]
      · by_cases d : 9 ≤ i ∧ i < 9 + k ∧ h (i - 9) ≠ 0
        · rw [if_pos d, if_pos ⟨d.1, by omega, d.2.2⟩]
        · rw [if_neg d, if_neg (by intro e; exact d ⟨e.1, by omega, e.2.2⟩)]
    · rw [if_neg z, addP_snoc]
      dsimp only
      by_cases c : i = 9 + k
      · subst c
        rw [cup_same, ih, if_neg (by omega), if_pos ⟨by omega, by omega, by rw [Nat.add_sub_cancel_left]; exact z⟩, Nat.add_sub_cancel_left]
      · rw [cup_ne _ _ _ _ c, ih i]
        by_cases d : 9 ≤ i ∧ i < 9 + k ∧ h (i - 9) ≠ 0
        · rw [if_pos d, if_pos ⟨d.1, by omega, d.2.2⟩]
        · rw [if_neg d, if_neg (by intro e; exact d ⟨e.1, by omega, e.2.2⟩)]
theorem addP_prs (a b : Nat → Int) (ha : Wf a) (hw : Wf b) (hb : ∀ i, i < 65 → -9223372036854775808 ≤ b (9 + i) ∧ b (9 + i) ≤ 9223372036854775807) : ∀ i, i < 74 → addP (headF a b) (prs (fun i => b (9 + i)) hb 65) i = bothF a b i := by
  intro i hi
  rw [addP_prs_at _ _ _ 65 (by omega)]
  unfold bothF
  by_cases c : i < 9
  · rw [if_neg (by omega), if_pos c]
  · rw [if_neg c, show 9 + (i - 9) = i by omega]
    have e : headF a b i = a i := by unfold headF; rw [if_neg (by omega), if_neg (by omega), if_neg (by omega), if_neg (by omega), if_neg (by omega), if_neg c]
    rw [e]
    by_cases z : b i = 0
    · rw [if_neg (by simp [z]), z, Int.add_zero]
      have := ha.2 i hi (by omega)
      unfold wrap64; omega
    · rw [if_pos ⟨by omega, by omega, z⟩]

theorem head_no (a b c4 : Nat → Int) (hc4 : c4 = cup (cup (cup (cup (cup a 0 (wrap64 (a 0 + b 0))) 1 (wh (wv (a 1) (a 2) + wv (b 1) (b 2)))) 2 (wl (wv (a 1) (a 2) + wv (b 1) (b 2)))) 3 (min (a 3) (b 3))) 4 (max (a 4) (b 4)))
    (hl : ltr (b 5) (b 6) (b 7) (b 8) (a 5) (a 6) (a 7) (a 8) = false) : ∀ i, i < 74 → c4 i = headF a b i := by
  intro i hi
  subst hc4
  unfold headF cup
  rw [hl]
  by_cases e4 : i = 4
  · subst e4; simp
  by_cases e3 : i = 3
  · subst e3; simp
  by_cases e2 : i = 2
  · subst e2; simp
  by_cases e1 : i = 1
  · subst e1; simp
  by_cases e0 : i = 0
  · subst e0; simp
  simp [e0, e1, e2, e3, e4]
theorem head_yes (a b c4 : Nat → Int) (hc4 : c4 = cup (cup (cup (cup (cup a 0 (wrap64 (a 0 + b 0))) 1 (wh (wv (a 1) (a 2) + wv (b 1) (b 2)))) 2 (wl (wv (a 1) (a 2) + wv (b 1) (b 2)))) 3 (min (a 3) (b 3))) 4 (max (a 4) (b 4)))
    (hl : ltr (b 5) (b 6) (b 7) (b 8) (a 5) (a 6) (a 7) (a 8) = true) : ∀ i, i < 74 → cup (cup (cup (cup c4 5 (b 5)) 6 (b 6)) 7 (b 7)) 8 (b 8) i = headF a b i := by
  intro i hi
  subst hc4
  unfold headF cup
  rw [hl]
  by_cases e8 : i = 8
  · subst e8; simp
  by_cases e7 : i = 7
  · subst e7; simp
  by_cases e6 : i = 6
  · subst e6; simp
  by_cases e5 : i = 5
  · subst e5; simp
  by_cases e4 : i = 4
  · subst e4; simp
  by_cases e3 : i = 3
  · subst e3; simp
  by_cases e2 : i = 2
  · subst e2; simp
  by_cases e1 : i = 1
  · subst e1; simp
  by_cases e0 : i = 0
  · subst e0; simp
  have : ¬ i < 9 := by omega
  simp [e0, e1, e2, e3, e4, e5, e6, e7, e8, this]

theorem blk_kept {W W' : World} {row : Option Nat} {b : Nat} {vs : Array Value} {t : TypeId} (h : Blk W b vs t) (hg : W.grownBy W' row) (hr : ∀ r, row = some r → ∃ o : Obj, W.heap[r]? = some o ∧ o.isCells = false) : Blk W' b vs t :=
  (grownBy_keeps_cells hg hr h rfl).trans h

end Go.Proofs.YthmolbcnbcajdaaGreat
