/-
  Rows of numbers in memory; estuarynum.Ints.
-/
import Derived.Test.YtnooedipanhkjaaRows
import Derived.Test.YtnooedipanhkjaaRegion
import Derived.Test.YtnooedipanhkjaaOwn
import Derived.Test.YtnooedipanhkjaaSlc
import Derived.WalkKit
import Derived.WalkSpells
import Derived.WalkLawsBesides
import Derived.Deep.QuietTactic
import Derived.BigQuiet
import Derived.Deep.CutRange
import Derived.Deep.RegionHeld3
import Derived.Test.YtnooedipanhkjaaWalk2
namespace Go.Proofs.Ytnooedipanhkjaa
set_option maxRecDepth 100000
open Go.RowKit
set_option linter.unusedVariables false

/-- A row of numbers in memory. -/
def IRow (W : World) (g off : Nat) (l : List Int) : Prop := ∀ j x, l[j]? = some x → W.cell? ⟨g, off + j, none⟩ = some (.int .i64 x)
theorem irow_keep {W W' : World} {g off : Nat} {l : List Int} (h : IRow W g off l) (hg : 0 < l.length → g < W.heap.size) (hb : Below W.heap.size W W') : IRow W' g off l := by
  intro j x hx
  rw [hb.cell (p := ⟨g, _, none⟩) (hg (by have := (List.getElem?_eq_some_iff.1 hx).1; omega))]; exact h j x hx
theorem irow_drop {W : World} {g off : Nat} {l : List Int} (h : IRow W g off l) (k : Nat) : IRow W g (off + k) (l.drop k) := by
  intro j x hx
  rw [List.getElem?_drop] at hx
  have := h (k + j) x hx
  rwa [Nat.add_assoc]
theorem irow_take {W : World} {g off : Nat} {l : List Int} (h : IRow W g off l) (k : Nat) : IRow W g off (l.take k) := by
  intro j x hx
  have hj : j < k := by have := (List.getElem?_eq_some_iff.1 hx).1; simp at this; omega
  rw [List.getElem?_take_of_lt hj] at hx
  exact h j x hx
theorem list_same {l m : List Int} (hl : l.length = m.length) (h : ∀ j, j < l.length → l[j]? = m[j]?) : l = m := by
  apply List.ext_getElem?
  intro j
  by_cases c : j < l.length
  · exact h j c
  · rw [List.getElem?_eq_none (by omega), List.getElem?_eq_none (by omega)]

set_option maxHeartbeats 400000 in
theorem ints_any (q1 : Option Addr) (g1 o1 c1 n1 : Nat) (l1 : List Int) (q2 : Option Addr) (g2 o2 c2 n2 : Nat) (l2 : List Int) (w : World) (hn1 : l1.length = n1) (hn2 : l2.length = n2) (hm1 : n1 ≤ 100000) (hm2 : n2 ≤ 100000)
    (hp1 : 0 < n1 → q1 = some ⟨g1, o1, none⟩) (hp2 : 0 < n2 → q2 = some ⟨g2, o2, none⟩) (hr1 : IRow w g1 o1 l1) (hr2 : IRow w g2 o2 l2) (hg1 : 0 < n1 → g1 < w.heap.size) (hg2 : 0 < n2 → g2 < w.heap.size) :
    Calls Try.prog 14 #[.slice q1 n1 c1, .slice q2 n2 c2] w fun e w' => e = .returned (.bool (decide (l1 = l2))) ∧ Below w.heap.size w w' := by
  by_cases hl : n1 = n2
  · subst hl
    have hb : ((n1 : Int) != (n1 : Int)) = false := by simp
    go_enter Try.func14, Try.ntmps14
    go_wp2_with fail
    go_loopw [13] (fun i wr => ∃ k : Nat, k ≤ n1 ∧ i = .int .i64 (k : Int) ∧ (∀ j, j < k → l1[j]? = l2[j]?) ∧ Below w.heap.size w wr) (fun i _ => n1 - (intOf i).toNat)
    case atStart => exact ⟨0, by omega, rfl, fun j hj => absurd hj (by omega), Below.refl _ _⟩
    case round =>
      obtain ⟨k, hk, rfl, hs, hw⟩ := hrel
      by_cases c : k = n1
      · subst c
        have HE : Hid (decide (l1 = l2) = true) := by show _ = _; exact decide_eq_true (list_same (by omega) (fun j hj => hs j (by omega)))
        clear hs hr1 hr2
        go_wp2_with fail
        go_ret
        exact ⟨by rw [HE.out]; rfl, hw⟩
      · obtain ⟨x, hx⟩ : ∃ x, l1[k]? = some x := ⟨l1[k], List.getElem?_eq_getElem (by omega)⟩
        obtain ⟨y, hy⟩ : ∃ y, l2[k]? = some y := ⟨l2[k], List.getElem?_eq_getElem (by omega)⟩
        obtain rfl := hp1 (by omega)
        obtain rfl := hp2 (by omega)
        have d1 := (hw.cell (p := ⟨g1, o1 + k, none⟩) (hg1 (by omega))).trans (hr1 k x hx)
        have d2 := (hw.cell (p := ⟨g2, o2 + k, none⟩) (hg2 (by omega))).trans (hr2 k y hy)
        have hki : (k : Int) < (n1 : Int) := by omega
        by_cases e : x = y
        · subst e
          have HS : Hid (∀ j, j < k + 1 → l1[j]? = l2[j]?) := by
            intro j hj
            by_cases c : j = k
            · subst c; rw [hx, hy]
            · exact hs j (by omega)
          have hxx : (x != x) = false := by simp
          clear hs hr1 hr2 hx hy
          go_upto_region 6 with fail
          go_quiet (fail)
          go_wp2_with fail
          go_roundw
          case rel => exact ⟨k + 1, by omega, by go_num, HS.out, ab_drewN hw _⟩
          case measure => simp [intOf]; omega
        · have HE : Hid (decide (l1 = l2) = false) := by
            show _ = _
            refine decide_eq_false (fun h => e ?_)
            rw [h, hy] at hx; exact (Option.some.inj hx).symm
          have hxy : (x != y) = true := by simpa using e
          clear hs hr1 hr2 hx hy
          go_upto_region 6 with fail
          go_quiet (fail)
          go_wp2_with fail
          go_ret
          exact ⟨by rw [HE.out]; rfl, ab_drewN hw _⟩
  · have HE : Hid (decide (l1 = l2) = false) := by show _ = _; exact decide_eq_false (fun h => hl (by rw [← hn1, ← hn2, h]))
    have hb : ((n1 : Int) != (n2 : Int)) = true := by simp; omega
    clear hr1 hr2
    go_enter Try.func14, Try.ntmps14
    go_wp2_with fail
    go_ret
    exact ⟨by rw [HE.out]; rfl, Below.refl _ _⟩
end Go.Proofs.Ytnooedipanhkjaa
