/-
  The document's Same.
-/
import Derived.Test.YtlhamckpgijjmaaPk22
namespace Go.Proofs.Ytlhamckpgijjmaa
open Go.RowKit
set_option linter.unusedVariables false

/-- The same registers. -/
def smR (r s : Rg) : Bool := eqB r.p s.p && (eqB r.a s.a && decide (r.l = s.l))
theorem smR_iff {r s : Rg} : smR r s = true ↔ r = s := by
  unfold smR
  rw [Bool.and_eq_true, Bool.and_eq_true, eqB_iff, eqB_iff, decide_eq_true_iff]
  cases r; cases s
  simp
theorem smR_self (r : Rg) : smR r r = true := smR_iff.2 rfl
theorem sm_1 {r s : Rg} (h : eqB r.p s.p = false) : smR r s = false := by unfold smR; rw [h]; rfl
theorem sm_2 {r s : Rg} (h : eqB r.a s.a = false) : smR r s = false := by unfold smR; rw [h]; simp
theorem sm_3 {r s : Rg} (h : r.l ≠ s.l) : smR r s = false := by unfold smR; rw [decide_eq_false h]; simp
section
attribute [local go_sem] ok_foldB
set_option maxHeartbeats 1000000 in
theorem same9_any (r s : Rg) (v u : Value) (w : World) (hv : Is w v r.l) (hu : Is w u s.l) (hl : r.l.length ≤ 100000) :
    Calls Try.prog 15 #[rV r.p r.a v, rV s.p s.a u] w fun e w' => e = .returned (.bool (smR r s)) ∧ Below w.heap.size w w' := by
  obtain ⟨q, c, g, off, rfl, hc1, hc2, hp, hg, hr⟩ := hv
  obtain ⟨q2, k, g2, off2, rfl, hk1, hk2, hp2, hg2, hr2⟩ := hu
  obtain ⟨n, hn⟩ : ∃ n, r.l.length = n := ⟨_, rfl⟩
  obtain ⟨m, hm⟩ : ∃ m, s.l.length = m := ⟨_, rfl⟩
  rw [hn] at hp hg hc1 hl ⊢
  rw [hm] at hp2 hg2 hk1 ⊢
  have e1 := eq3 r.p s.p
  have e2 := eq3 r.a s.a
  go_enter Try.func15, Try.ntmps15
  go_upto_region 1 with fail
  obtain ⟨A, hAe, hB0, hB1, hw⟩ := blk2 w (rC r.p r.a (.slice q n c)) (rC s.p s.a (.slice q2 m k)) 40 40
  rw [hAe]
  obtain ⟨c0, c1, c2, c3, c4, c5, c6⟩ := cells7 hB0
  obtain ⟨d0, d1, d2, d3, d4, d5, d6⟩ := cells7 hB1
  have hbv := Below.refl A.heap.size A
  clear hAe
  cases h1 : eqB r.p s.p
  · rw [h1] at e1
    have HF : Hid (smR r s = false) := sm_1 h1
    clear hr hr2 hp hp2 hg hg2
    go_wp2_with fail
    go_ret
    exact ⟨ret_bool HF.out.symm, hw⟩
  · rw [h1] at e1
    cases h2 : eqB r.a s.a
    · rw [h2] at e2
      have HF : Hid (smR r s = false) := sm_2 h2
      clear hr hr2 hp hp2 hg hg2
      go_wp2_with fail
      go_ret
      exact ⟨ret_bool HF.out.symm, hw⟩
    · rw [h2] at e2
      by_cases h3 : n = m
      · subst h3
        have HS : Hid (smR r s = decide (r.l = s.l)) := by show _ = _; unfold smR; rw [h1, h2]; rfl
        go_upto_region 3 with fail
        clear c0 c1 c2 c3 c4 c5 d0 d1 d2 d3 d4 d5 e1 e2 h1 h2
        have hr1 := irow_keep hr (by rw [hn]; exact hg) hw
        have hr3 := irow_keep hr2 (by rw [hm]; exact hg2) hw
        have hg1 : 0 < n → g < A.heap.size := fun h => Nat.lt_of_lt_of_le (hg h) hw.size
        have hg3 : 0 < n → g2 < A.heap.size := fun h => Nat.lt_of_lt_of_le (hg2 h) hw.size
        clear hr hr2 hg hg2
        go_wp2_with fail
        go_loopw [5] (fun i wr => ∃ j : Nat, j ≤ n ∧ i = .int .i64 (j : Int) ∧ r.l.take j = s.l.take j ∧ Below A.heap.size A wr) (fun i _ => n - (intOf i).toNat)
        case atStart => exact ⟨0, by omega, rfl, rfl, Below.refl _ _⟩
        case round =>
          obtain ⟨j, hj, rfl, ht, hb⟩ := hrel
          by_cases cj : j = n
          · subst cj
            rw [List.take_of_length_le (by omega), List.take_of_length_le (by omega)] at ht
            have HT : Hid (true = smR r s) := by show _ = _; rw [HS.out, ht]; simp
            clear ht hr1 hr3
            go_wp2_with fail
            go_ret
            exact ⟨ret_bool HT.out, ab_trans hw hb⟩
          · obtain ⟨x, hx⟩ : ∃ x, r.l[j]? = some x := ⟨r.l[j], List.getElem?_eq_getElem (by omega)⟩
            obtain ⟨y, hy⟩ : ∃ y, s.l[j]? = some y := ⟨s.l[j], List.getElem?_eq_getElem (by omega)⟩
            obtain rfl := hp (by omega)
            obtain rfl := hp2 (by omega)
            have z1 := (hb.cell (p := ⟨g, off + j, none⟩) (hg1 (by omega))).trans (hr1 j x hx)
            have z2 := (hb.cell (p := ⟨g2, off2 + j, none⟩) (hg3 (by omega))).trans (hr3 j y hy)
            have y1 := c6 wr hb
            have y2 := d6 wr hb
            have hji : (j : Int) < (n : Int) := by omega
            have hjn : j < n := by omega
            clear c6 d6 hB0 hB1
            by_cases e : x = y
            · subst e
              have HT : Hid (r.l.take (j + 1) = s.l.take (j + 1)) := by show _ = _; rw [List.take_add_one, List.take_add_one, ht, hx, hy]
              have hxx : (x != x) = false := by simp
              clear hr1 hr3 hx hy ht
              go_upto_region 6 with fail
              go_quiet (fail)
              go_wp2_with fail
              go_roundw
              case rel => exact ⟨j + 1, by omega, by go_num, HT.out, ab_drewN hb _⟩
              case measure => simp [intOf]; omega
            · have HE : Hid (false = smR r s) := by
                show _ = _
                rw [HS.out]
                refine (decide_eq_false (fun h => e ?_)).symm
                rw [h, hy] at hx; exact (Option.some.inj hx).symm
              have hxy : (x != y) = true := by simpa using e
              clear hr1 hr3 hx hy ht
              go_upto_region 6 with fail
              go_quiet (fail)
              go_wp2_with fail
              go_ret
              exact ⟨ret_bool HE.out, ab_trans hw (ab_drewN hb _)⟩
      · have HF : Hid (smR r s = false) := sm_3 (fun e => h3 (by rw [← hn, ← hm, e]))
        have h4 : ((n : Int) != (m : Int)) = true := by simp; omega
        clear hr hr2 hp hp2 hg hg2
        go_wp2_with fail
        go_ret
        exact ⟨ret_bool HF.out.symm, hw⟩
end
end Go.Proofs.Ytlhamckpgijjmaa
