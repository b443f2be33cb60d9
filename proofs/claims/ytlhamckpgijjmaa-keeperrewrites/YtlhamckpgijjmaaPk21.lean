/-
  ballot.clone, ballotOf; the document's Good.
-/
import Derived.Test.YtlhamckpgijjmaaPk20
namespace Go.Proofs.Ytlhamckpgijjmaa
open Go.RowKit
set_option linter.unusedVariables false

theorem own_nil (W : World) (base : Nat) : W.ownsRow base 3 1 (.slice none 0 0) 0 (ints []) := ⟨rfl, .inl ⟨rfl, rfl⟩⟩
set_option maxHeartbeats 400000 in
theorem bclone_any (v : Value) (l : List Int) (w : World) (hv : Is w v l) (hl : l.length ≤ 100000) : Calls Try.prog 56 #[v] w fun e w' => ∃ v', e = .returned v' ∧ Io w' w.heap.size v' l ∧ Below w.heap.size w w' := by
  go_enter Try.func56, Try.ntmps56
  go_upto_region 1 with fail
  refine wp_region_lit ?_
  refine valS rfl v rfl ?_
  refine app_i w rfl rfl (l := []) (m := l) rfl (own_nil _ _) rfl hv rfl (by omega) (Below.refl _ _) ?_
  intro v' W' hown hnil hb hg hat
  go_wp2_with fail
  go_ret
  exact ⟨_, rfl, io_of hown, hb⟩
set_option maxHeartbeats 400000 in
theorem ballotOf_any (v : Value) (l : List Int) (w : World) (hv : Is w v l) (h2 : 3 ≤ l.length) :
    Calls Try.prog 54 #[v] w fun e w' => e = .returned (bV ⟨l.getD 0 0, l.getD 1 0, l.getD 2 0⟩) ∧ Below w.heap.size w w' := by
  obtain ⟨q, cap, e⟩ := hv.form
  subst e
  obtain ⟨g, off, rfl, hg, hr⟩ := hv.at (by omega)
  have hc := hv.len
  have d0 := hr 0 _ (show l[0]? = some (l.getD 0 0) by rw [List.getD_eq_getElem?_getD, List.getElem?_eq_getElem (by omega)]; rfl)
  have d1 := hr 1 _ (show l[1]? = some (l.getD 1 0) by rw [List.getD_eq_getElem?_getD, List.getElem?_eq_getElem (by omega)]; rfl)
  have d2 := hr 2 _ (show l[2]? = some (l.getD 2 0) by rw [List.getD_eq_getElem?_getD, List.getElem?_eq_getElem (by omega)]; rfl)
  generalize l.getD 0 0 = x0 at *
  generalize l.getD 1 0 = x1 at *
  generalize l.getD 2 0 = x2 at *
  generalize l.length = n at *
  clear hv hr
  go_enter Try.func54, Try.ntmps54
  go_upto_region 1 with fail
  obtain ⟨A, hAe, hB, hw⟩ := blk1 w #[.int .i64 0, .int .i64 0, .int .i64 0] 38
  rw [hAe]
  have e0 : A.cell? ⟨g, off, none⟩ = some (.int .i64 x0) := keep_cell hw d0 hg
  have e1 : A.cell? ⟨g, off + 1, none⟩ = some (.int .i64 x1) := keep_cell hw d1 hg
  have e2 : A.cell? ⟨g, off + 2, none⟩ = some (.int .i64 x2) := keep_cell hw d2 hg
  obtain ⟨y0, y1, y2⟩ := cells3 (b := zB) hB
  have f0 := hB.frozen 0
  have f1 := hB.frozen 1
  have f2 := hB.frozen 2
  have hbv := Below.refl A.heap.size A
  have hlt := hB.lt
  clear hAe d0 d1 d2 hg
  go_region
  go_wp2_with fail
  have hB3 := ((hB.drew.set 0 (.int .i64 x0)).set 1 (.int .i64 x1)).set 2 (.int .i64 x2)
  have C3 := ((chg_set A.drew w.heap.size 0 (.int .i64 x0)).trans (chg_set _ w.heap.size 1 (.int .i64 x1))).trans (chg_set _ w.heap.size 2 (.int .i64 x2))
  exact bodyPost_ret (results_cell_row rfl _ _ _ 38 _ (0, 0) _ rfl hB3 Try.underlying38 rfl (info_bt ⟨x0, x1, x2⟩)) rfl ⟨rfl, ab_chg (ab_drew hw) C3 (Nat.le_refl _)⟩
theorem gd_0 {p a : Bt} {n : Nat} (h : ¬ n ≤ 32) : gdN p a n = false := by
  unfold gdN
  rw [show decide (n = 0) = false from decide_eq_false (by omega), show decide (n ≤ 32) = false from decide_eq_false h]
  simp
theorem ne3 (a : Bt) : (!(decide (a.n = 0) && (decide (a.nd = 0) && decide (a.lf = 0)))) = !noB a := by rw [and3]
theorem gd_6 {p a : Bt} {n : Nat} (h1 : whB p = true) (h2 : whB a = true) (h3 : lt3 p a = false) (h4 : n ≤ 32) (h5 : noB a = false) : gdN p a n = true := by unfold gdN; rw [h1, h2, h3, h5]; simpa using h4
section
attribute [local go_sem] ok_foldB
set_option maxHeartbeats 400000 in
theorem rgood_any (p a : Bt) (q : Option Addr) (n c : Nat) (w : World) : Calls Try.prog 14 #[rV p a (.slice q n c)] w fun e w' => e = .returned (.bool (gdN p a n)) ∧ Below w.heap.size w w' := by
  go_enter Try.func14, Try.ntmps14
  go_upto_region 1 with fail
  obtain ⟨A, hAe, hB, hw⟩ := blk1 w (rC p a (.slice q n c)) 40
  rw [hAe]
  obtain ⟨c0, c1, c2, c3, c4, c5, c6⟩ := cells7 hB
  have hbv := Below.refl A.heap.size A
  clear hAe hB
  go_wp2_with fail
  refine (sound_any p _).mono ?_
  rintro e W1 ⟨rfl, b1⟩
  have hbv := ab_trans hbv b1
  cases h1 : whB p
  · have HF : Hid (gdN p a n = false) := gd_1 h1
    go_wp2_with fail
    go_ret
    exact ⟨ret_bool HF.out.symm, ab_trans hw hbv⟩
  · go_wp2_with fail
    refine (sound_any a _).mono ?_
    rintro e W2 ⟨rfl, b2⟩
    have hbv := ab_trans hbv b2
    cases h2 : whB a
    · have HF : Hid (gdN p a n = false) := gd_2 h2
      go_wp2_with fail
      go_ret
      exact ⟨ret_bool HF.out.symm, ab_trans hw hbv⟩
    · go_wp2_with fail
      refine (rbless_any p a _).mono ?_
      rintro e W3 ⟨rfl, b3⟩
      have hbv := ab_trans hbv b3
      cases h3 : lt3 p a
      · by_cases h5 : n ≤ 32
        · cases h4 : noB a
          · have HF : Hid (gdN p a n = true) := gd_6 h1 h2 h3 h5 h4
            have HN := and3 a.n a.nd a.lf
            rw [h4] at HN
            have h6 : ((n : Int) ≤ 32) := by omega
            go_wp2_with fail
            go_ret
            exact ⟨ret_bool HF.out.symm, ab_trans hw hbv⟩
          · have HF : Hid (decide (n = 0) = gdN p a n) := gd_4 h1 h2 h3 h4
            obtain rfl := noB_iff.1 h4
            have h6 : ((n : Int) ≤ 32) := by omega
            go_wp2_with fail
            go_ret
            refine ⟨ret_bool (Eq.trans ?_ HF.out), ab_trans hw hbv⟩
            first | (rw [decide_eq_decide]; omega) | (rw [Bool.eq_iff_iff]; simp)
        · have HF : Hid (gdN p a n = false) := gd_0 h5
          have h6 : ¬ ((n : Int) ≤ 32) := by omega
          go_wp2_with fail
          go_ret
          exact ⟨ret_bool HF.out.symm, ab_trans hw hbv⟩
      · have HF : Hid (gdN p a n = false) := gd_3 h3
        go_wp2_with fail
        go_ret
        exact ⟨ret_bool HF.out.symm, ab_trans hw hbv⟩
end
end Go.Proofs.Ytlhamckpgijjmaa
