/-
  estuarynum.Ops: the same operations.
-/
import Derived.Test.YtackgngmdcionaaPk27
namespace Go.Proofs.Ytackgngmdcionaa
open Go.RowKit
set_option linter.unusedVariables false
set_option maxRecDepth 100000
attribute [local go_sem] ok_foldS

theorem op5_ne {a b : Op5} (h : a ≠ b) : (!decide (a.s = b.s) || (!decide (a.k = b.k) || (!decide (a.t = b.t) || (!decide (a.y = b.y) || !decide (a.v = b.v))))) = true := by
  cases hh : (!decide (a.s = b.s) || (!decide (a.k = b.k) || (!decide (a.t = b.t) || (!decide (a.y = b.y) || !decide (a.v = b.v)))))
  · exfalso
    simp only [Bool.or_eq_false_iff, Bool.not_eq_false', decide_eq_true_eq] at hh
    obtain ⟨h1, h2, h3, h4, h5⟩ := hh
    apply h
    cases a; cases b
    simp only at h1 h2 h3 h4 h5
    subst h1 h2 h3 h4 h5
    rfl
  · rfl
set_option maxHeartbeats 2000000 in
theorem sops_any (v1 v2 : Value) (l m : List Op5) (w : World) (h1 : ER E5 w v1 l) (h2 : ER E5 w v2 m) :
    Calls Try.prog 24 #[v1, v2] w fun r w' => r = .returned (.bool (decide (l = m))) ∧ Below w.heap.size w w' := by
  obtain ⟨q1, c1, g1, o1, rfl, hc1, hm1, hp1, hr1⟩ := h1.at
  obtain ⟨q2, c2, g2, o2, rfl, hc2, hm2, hp2, hr2⟩ := h2.at
  clear h1 h2
  by_cases hl : l.length = m.length
  · have hl' : ((l.length : Int) != (m.length : Int)) = false := by simp [hl]
    generalize hn : l.length = n at *
    have hm : m.length = n := hl.symm
    rw [hm] at hp2 hc2 hl' ⊢
    clear hl
    go_enter Try.func24, Try.ntmps24
    go_wp2_with fail
    go_loopw [13] (fun i wr => ∃ k : Nat, k ≤ n ∧ i = .int .i64 (k : Int) ∧ l.take k = m.take k ∧ Below w.heap.size w wr) (fun i _ => n - (intOf i).toNat)
    case atStart => exact ⟨0, Nat.zero_le _, rfl, rfl, Below.refl _ _⟩
    case round =>
      obtain ⟨k, hk, rfl, hall, hw⟩ := hrel
      by_cases c : k = n
      · subst c
        rw [List.take_of_length_le (by omega), List.take_of_length_le (by omega)] at hall
        have HV : Hid (decide (l = m) = true) := decide_eq_true hall
        clear hall hr1 hr2
        go_wp2_with fail
        go_ret
        exact ⟨by rw [HV.out]; rfl, hw⟩
      · obtain ⟨x, hx⟩ : ∃ x, l[k]? = some x := ⟨l[k], List.getElem?_eq_getElem (by omega)⟩
        obtain ⟨y, hy⟩ : ∃ y, m[k]? = some y := ⟨m[k]'(by omega), List.getElem?_eq_getElem _⟩
        obtain ⟨rfl, hg1⟩ := hp1 (by omega)
        obtain ⟨rfl, hg2⟩ := hp2 (by omega)
        have hki : (k : Int) < (n : Int) := by omega
        have a0 : wr.cell? ⟨g1, o1 + k * 5, none⟩ = some (.int .i64 x.s) := keep_cell hw (hr1 k x hx 0 _ rfl) hg1
        have a1 : wr.cell? ⟨g1, o1 + k * 5 + 1, none⟩ = some (.int .i64 x.k) := keep_cell hw (hr1 k x hx 1 _ rfl) hg1
        have a2 : wr.cell? ⟨g1, o1 + k * 5 + 2, none⟩ = some (.int .i64 x.t) := keep_cell hw (hr1 k x hx 2 _ rfl) hg1
        have a3 : wr.cell? ⟨g1, o1 + k * 5 + 3, none⟩ = some (.int .i64 x.y) := keep_cell hw (hr1 k x hx 3 _ rfl) hg1
        have a4 : wr.cell? ⟨g1, o1 + k * 5 + 4, none⟩ = some (.int .i64 x.v) := keep_cell hw (hr1 k x hx 4 _ rfl) hg1
        have b0 : wr.cell? ⟨g2, o2 + k * 5, none⟩ = some (.int .i64 y.s) := keep_cell hw (hr2 k y hy 0 _ rfl) hg2
        have b1 : wr.cell? ⟨g2, o2 + k * 5 + 1, none⟩ = some (.int .i64 y.k) := keep_cell hw (hr2 k y hy 1 _ rfl) hg2
        have b2 : wr.cell? ⟨g2, o2 + k * 5 + 2, none⟩ = some (.int .i64 y.t) := keep_cell hw (hr2 k y hy 2 _ rfl) hg2
        have b3 : wr.cell? ⟨g2, o2 + k * 5 + 3, none⟩ = some (.int .i64 y.y) := keep_cell hw (hr2 k y hy 3 _ rfl) hg2
        have b4 : wr.cell? ⟨g2, o2 + k * 5 + 4, none⟩ = some (.int .i64 y.v) := keep_cell hw (hr2 k y hy 4 _ rfl) hg2
        by_cases e : x = y
        · subst e
          have HV : Hid (l.take (k + 1) = m.take (k + 1)) := by show _ = _; rw [List.take_add_one, List.take_add_one, hall, hx, hy]
          clear hall hr1 hr2 hx hy hp1 hp2
          go_upto_region 6 with fail
          go_quiet (fail)
          go_wp2_with fail
          go_roundw
          case rel => exact ⟨k + 1, by omega, by go_num, HV.out, ab_drewN hw _⟩
          case measure => simp [intOf]; omega
        · have HV : Hid (decide (l = m) = false) := decide_eq_false (fun h => by subst h; rw [hx] at hy; cases hy; exact e rfl)
          have hne := op5_ne e
          clear hall hr1 hr2 hx hy hp1 hp2 e
          go_upto_region 6 with fail
          go_quiet (fail)
          go_wp2_with fail
          go_ret
          exact ⟨by rw [HV.out]; rfl, ab_drewN hw _⟩
  · have hl' : ((l.length : Int) != (m.length : Int)) = true := by simp; omega
    have HV : Hid (decide (l = m) = false) := decide_eq_false (fun h => hl (by rw [h]))
    clear hr1 hr2 hp1 hp2 hl
    go_enter Try.func24, Try.ntmps24
    go_wp2_with fail
    go_ret
    exact ⟨by rw [HV.out]; rfl, Below.refl _ _⟩
end Go.Proofs.Ytackgngmdcionaa
