/-
  plan's Lane and the document's; the chapter's example; plain mathematics of who is what.
-/
import Derived.Test.YtnooedipanhkjaaPnF
import Derived.Test.YtnooedipanhkjaaRDiv
namespace Go.Proofs.Ytnooedipanhkjaa
open Go.RowKit
set_option linter.unusedVariables false
set_option maxRecDepth 100000

theorem pnM_bd (k : Int) {n : Int} (h : 1 ≤ n) : 0 ≤ flM k n ∧ flM k n < n := by
  unfold flM
  rw [if_neg (by omega)]
  exact ⟨Int.emod_nonneg _ (by omega), Int.emod_lt_of_pos _ (by omega)⟩
theorem la_small {i s n : Int} (i0 : 0 ≤ i) (i3 : i ≤ 3) (n0 : 1 ≤ n) (n4 : n ≤ 4) (s0 : 0 ≤ s) (s1 : s < n) : wrap64 (i * n) = i * n ∧ wrap64 (i * n + s) = i * n + s ∧ lnN i s n = i * n + s ∧ 0 ≤ i * n := by
  have h1 : i * n ≤ 3 * 4 := Int.mul_le_mul i3 n4 (by omega) (by omega)
  have h0 : 0 ≤ i * n := Int.mul_nonneg i0 (by omega)
  unfold lnN wrap64
  omega
set_option maxHeartbeats 1000000 in
theorem plane_any (p : Pn) (i key : Int) (w : World) (hv : Is w p.v p.l) (k0 : -9223372036854775808 ≤ key) (k1 : key ≤ 9223372036854775807) :
    Calls Try.prog 19 #[pnV p, .int .i64 i, .int .i64 key] w fun e w' => e = .returned (ndV (laF p i key)) ∧ Below w.heap.size w w' := by
  obtain ⟨A, hAe, hX, hw⟩ := blk1 w (pnC p) 24
  have HG := pgood_any p A (hv.keep hw)
  obtain ⟨q, cap, ev⟩ := hv.form
  cases hg : gdP p
  · have HL : Hid (laF p i key = (0, false)) := by show _ = _; unfold laF; rw [hg]; rfl
    rw [hg] at HG
    clear hg hv
    go_enter Try.func19, Try.ntmps19
    go_upto_region 1 with fail
    clear hAe
    go_wp2_with (first
      | (refine ld_blk rfl rfl hX rfl _ Try.underlying24 rfl info_pn ?_)
      | (go_at_call 21; refine HG.mono ?_; rintro e W ⟨rfl, b1⟩))
    go_ret2
    exact ⟨by rw [HL.out]; rfl, ab_trans hw b1⟩
  · obtain ⟨-, -, hl, hs1, hs4⟩ := gd_bd hg
    have hfl := pnM_bd key hs1
    have HL : Hid (0 ≤ i ∧ i < (p.l.length : Int) → laF p i key = (i * p.sh + flM key p.sh, true)) := fun h => by unfold laF; rw [if_pos ⟨hg, h⟩]
    have HN : Hid (¬ (0 ≤ i ∧ i < (p.l.length : Int)) → laF p i key = (0, false)) := fun h => by unfold laF; rw [if_neg (fun h' => h h'.2)]
    rw [hg] at HG
    clear hg hv
    obtain ⟨so, ke, v, l, sh, ho, ce, ba, le⟩ := p
    dsimp only at ev HL HN hl hs1 hs4 hfl
    subst ev
    generalize l.length = n at *
    by_cases c : i < 0
    · have HV := HN.out (by omega)
      clear HL HN
      have HV : Hid (_ = _) := HV
      go_enter Try.func19, Try.ntmps19
      go_upto_region 1 with fail
      clear hAe
      go_wp2_with (first
        | (refine ld_blk rfl rfl hX rfl _ Try.underlying24 rfl info_pn ?_)
        | (go_at_call 21; refine HG.mono ?_; rintro e W ⟨rfl, b1⟩))
      go_ret2
      exact ⟨by rw [HV.out]; rfl, ab_trans hw b1⟩
    by_cases c2 : i < (n : Int)
    rotate_left
    · have HV := HN.out (by omega)
      clear HL HN
      have HV : Hid (_ = _) := HV
      go_enter Try.func19, Try.ntmps19
      go_upto_region 1 with fail
      clear hAe
      go_wp2_with (first
        | (refine ld_blk rfl rfl hX rfl _ Try.underlying24 rfl info_pn ?_)
        | (go_at_call 21; refine HG.mono ?_; rintro e W ⟨rfl, b1⟩; have x2 : W.cell? ⟨w.heap.size, 2, none⟩ = some (.slice q n cap) := (hX.keep b1).at rfl))
      go_ret2
      exact ⟨by rw [HV.out]; rfl, ab_trans hw b1⟩
    · have HV := HL.out (by omega)
      clear HL HN
      have HV : Hid (_ = _) := HV
      obtain ⟨m1, m2, m3, m4⟩ := la_small (i := i) (s := flM key sh) (n := sh) (by omega) (by omega) hs1 hs4 hfl.1 hfl.2
      go_enter Try.func19, Try.ntmps19
      go_upto_region 1 with fail
      clear hAe
      go_upto_region 3 with (first
        | (refine ld_blk rfl rfl hX rfl _ Try.underlying24 rfl info_pn ?_)
        | (go_at_call 21; refine HG.mono ?_; rintro e W ⟨rfl, b1⟩; have x2 : W.cell? ⟨w.heap.size, 2, none⟩ = some (.slice q n cap) := (hX.keep b1).at rfl))
      have hXW := hX.keep b1
      have x3 : W.cell? ⟨w.heap.size, 3, none⟩ = some (.int .i64 sh) := hXW.at rfl
      have y3 := cls_cell x3 hXW.lt
      have hwW := ab_trans hw b1
      clear hX HG hw b1 x3 x2 hXW
      refine wp_region_below (by kernel_rfl) (by kernel_rfl) ?_
      have HZ := cls_some W
      repeat (go_big_quiet_step (first
        | (go_at_call 26; exact calls_drawn (shard_any key sh _ k0 k1 (by omega)))
        | (go_at_call 25; exact calls_same (lane_any _ _ _ _))))
      refine wpQuiet_nil ?_
      rintro _ ⟨x, rfl⟩
      go_wp2_with fail
      go_ret2
      exact ⟨by rw [HV.out, ← m3]; rfl, ab_trans hwW x.prop⟩
set_option maxHeartbeats 1000000 in
theorem rlane_any (p : Pn) (i key : Int) (w : World) (hv : Is w p.v p.l) (k0 : -9223372036854775808 ≤ key) (k1 : key ≤ 9223372036854775807) :
    Calls Try.prog 20 #[pnV p, .int .i64 i, .int .i64 key] w fun e w' => e = .returned (ndV (laF p i key)) ∧ Below w.heap.size w w' := by
  obtain ⟨A, hAe, hX, hw⟩ := blk1 w (pnC p) 24
  have HG := rgood19_any p A (hv.keep hw)
  obtain ⟨q, cap, ev⟩ := hv.form
  cases hg : gdP p
  · have HL : Hid (laF p i key = (0, false)) := by show _ = _; unfold laF; rw [hg]; rfl
    rw [hg] at HG
    clear hg hv
    go_enter Try.func20, Try.ntmps20
    go_upto_region 1 with fail
    clear hAe
    go_wp2_with (first
      | (refine ld_blk rfl rfl hX rfl _ Try.underlying24 rfl info_pn ?_)
      | (go_at_call 10; refine HG.mono ?_; rintro e W ⟨rfl, b1⟩))
    go_ret2
    exact ⟨by rw [HL.out]; rfl, ab_trans hw b1⟩
  · obtain ⟨-, -, hl, hs1, hs4⟩ := gd_bd hg
    have hfl := pnM_bd key hs1
    have HL : Hid (0 ≤ i ∧ i < (p.l.length : Int) → laF p i key = (i * p.sh + flM key p.sh, true)) := fun h => by unfold laF; rw [if_pos ⟨hg, h⟩]
    have HN : Hid (¬ (0 ≤ i ∧ i < (p.l.length : Int)) → laF p i key = (0, false)) := fun h => by unfold laF; rw [if_neg (fun h' => h h'.2)]
    rw [hg] at HG
    clear hg hv
    obtain ⟨so, ke, v, l, sh, ho, ce, ba, le⟩ := p
    dsimp only at ev HL HN hl hs1 hs4 hfl
    subst ev
    generalize l.length = n at *
    by_cases c : i < 0
    · have HV := HN.out (by omega)
      clear HL HN
      have HV : Hid (_ = _) := HV
      go_enter Try.func20, Try.ntmps20
      go_upto_region 1 with fail
      clear hAe
      go_wp2_with (first
        | (refine ld_blk rfl rfl hX rfl _ Try.underlying24 rfl info_pn ?_)
        | (go_at_call 10; refine HG.mono ?_; rintro e W ⟨rfl, b1⟩))
      go_ret2
      exact ⟨by rw [HV.out]; rfl, ab_trans hw b1⟩
    by_cases c2 : i < (n : Int)
    rotate_left
    · have HV := HN.out (by omega)
      clear HL HN
      have HV : Hid (_ = _) := HV
      go_enter Try.func20, Try.ntmps20
      go_upto_region 1 with fail
      clear hAe
      go_wp2_with (first
        | (refine ld_blk rfl rfl hX rfl _ Try.underlying24 rfl info_pn ?_)
        | (go_at_call 10; refine HG.mono ?_; rintro e W ⟨rfl, b1⟩; have x2 : W.cell? ⟨w.heap.size, 2, none⟩ = some (.slice q n cap) := (hX.keep b1).at rfl))
      go_ret2
      exact ⟨by rw [HV.out]; rfl, ab_trans hw b1⟩
    · have HV := HL.out (by omega)
      clear HL HN
      have HV : Hid (_ = _) := HV
      obtain ⟨m1, m2, m3, m4⟩ := la_small (i := i) (s := flM key sh) (n := sh) (by omega) (by omega) hs1 hs4 hfl.1 hfl.2
      go_enter Try.func20, Try.ntmps20
      go_upto_region 1 with fail
      clear hAe
      go_upto_region 3 with (first
        | (refine ld_blk rfl rfl hX rfl _ Try.underlying24 rfl info_pn ?_)
        | (go_at_call 10; refine HG.mono ?_; rintro e W ⟨rfl, b1⟩; have x2 : W.cell? ⟨w.heap.size, 2, none⟩ = some (.slice q n cap) := (hX.keep b1).at rfl))
      have hXW := hX.keep b1
      have x3 : W.cell? ⟨w.heap.size, 3, none⟩ = some (.int .i64 sh) := hXW.at rfl
      have y3 := cls_cell x3 hXW.lt
      have hwW := ab_trans hw b1
      clear hX HG hw b1 x3 x2 hXW
      refine wp_region_below (by kernel_rfl) (by kernel_rfl) ?_
      have HZ := cls_some W
      repeat (go_big_quiet_step (first
        | (go_at_call 27; exact calls_same (rmod_any key sh _ k0 k1 (by omega)))))
      refine wpQuiet_nil ?_
      rintro _ ⟨x, rfl⟩
      go_wp2_with fail
      go_ret2
      exact ⟨by show Ending.returned (.tuple #[.int .i64 (wrap64 (i * sh + flM key sh)), .bool true]) = _; rw [HV.out, m2], ab_trans hwW x.prop⟩

/-! Who is what. -/
def roN (so ke : Nat) : List Int := List.replicate so 1 ++ [2, 2] ++ List.replicate ke 3 ++ [4]
def cnI (x : Int) (l : List Int) : Nat := (l.filter fun y => y == x).length
theorem tabN : ∀ so ∈ [1, 2, 3, 4], ∀ ke ∈ [1, 3, 5], (∀ r ∈ [(1 : Int), 2, 3, 4], ixL r (roN so ke) = rgL (spF (so : Nat) 2 (ke : Nat) 1 r).1 (spF (so : Nat) 2 (ke : Nat) 1 r).2.toNat) ∧ (∀ n ∈ List.range (so + ke + 3), rlF (so : Nat) 2 (ke : Nat) 1 (n : Nat) = ((roN so ke).getD n 0, ((cnI ((roN so ke).getD n 0) ((roN so ke).take n) : Nat) : Int), true)) ∧ (∀ x ∈ roN so ke, x = 1 ∨ x = 2 ∨ x = 3 ∨ x = 4) := by decide +kernel
theorem ro_good {p : Pn} (h : gdP p = true) : ∃ so ke : Nat, so ∈ [1, 2, 3, 4] ∧ ke ∈ [1, 3, 5] ∧ pnS p = (so : Int) ∧ pnT p = 2 ∧ pnK p = (ke : Int) ∧ pnI p = 1 ∧ roL p = roN so ke ∧ (roN so ke).length = so + ke + 3 := by
  obtain ⟨h1, h2, -, -⟩ := gd_bd h
  obtain ⟨e1, e2, e3, e4⟩ := n_yes h
  refine ⟨p.so.toNat, p.ke.toNat, ?_, ?_, by rw [e1]; omega, e2, by rw [e3]; omega, e4, by unfold roL roN; rw [if_pos h], by unfold roN; simp; omega⟩
  · simp; omega
  · simp; omega
theorem ix_none {r : Int} {l : List Int} (h : ∀ x ∈ l, x ≠ r) : ixL r l = [] := by
  unfold ixL
  rw [List.map_eq_nil_iff, List.filter_eq_nil_iff]
  intro i hi
  simp only [beq_iff_eq]
  intro e
  exact h r (List.mem_of_getElem? e) rfl
theorem ix_of (p : Pn) (r : Int) : ixL r (roL p) = ofL p r := by
  cases h : gdP p
  · obtain ⟨e1, e2, e3, e4⟩ := n_no h
    unfold ofL roL
    rw [e1, e2, e3, e4, h]
    unfold spF
    repeat' split
    all_goals first | rfl | contradiction
  · obtain ⟨so, ke, hs, hk, e1, e2, e3, e4, e5, -⟩ := ro_good h
    unfold ofL
    rw [e1, e2, e3, e4, e5]
    obtain ⟨t1, -, t3⟩ := tabN so hs ke hk
    by_cases c : r = 1 ∨ r = 2 ∨ r = 3 ∨ r = 4
    · exact t1 r (by rcases c with rfl | rfl | rfl | rfl <;> simp)
    · rw [ix_none (fun x hx e => by subst e; exact c (t3 x hx))]
      have : spF (so : Int) 2 (ke : Int) 1 r = (0, 0) := by
        unfold spF
        rw [if_neg (by omega), if_neg (by omega), if_neg (by omega), if_neg (by omega)]
      rw [this]; rfl
theorem ro_sum (p : Pn) : ((roL p).length : Int) = pnS p + pnT p + pnK p + pnI p := by
  cases h : gdP p
  · obtain ⟨e1, e2, e3, e4⟩ := n_no h
    rw [e1, e2, e3, e4]
    unfold roL
    rw [h]; rfl
  · obtain ⟨so, ke, hs, hk, e1, e2, e3, e4, e5, e6⟩ := ro_good h
    rw [e1, e2, e3, e4, e5, e6]
    omega
theorem rl_in (p : Pn) (n : Nat) (h : n < (roL p).length) : rlF (pnS p) (pnT p) (pnK p) (pnI p) (n : Int) = ((roL p).getD n 0, ((cnI ((roL p).getD n 0) ((roL p).take n) : Nat) : Int), true) := by
  cases hg : gdP p
  · exfalso
    unfold roL at h
    rw [hg] at h
    simp at h
  · obtain ⟨so, ke, hs, hk, e1, e2, e3, e4, e5, e6⟩ := ro_good hg
    obtain ⟨-, t2, -⟩ := tabN so hs ke hk
    rw [e1, e2, e3, e4, e5]
    rw [e5, e6] at h
    exact t2 n (by simpa using h)
theorem rl_out (p : Pn) (n : Int) (h : n < 0 ∨ ((roL p).length : Int) ≤ n) : rlF (pnS p) (pnT p) (pnK p) (pnI p) n = (0, 0, false) := by
  obtain ⟨h1, h2, h3, h4⟩ := n_bd p
  rw [ro_sum] at h
  unfold rlF
  by_cases c : n < 0
  · rw [if_pos c]
  · rw [if_neg c, if_neg (by omega), if_neg (by omega), if_neg (by omega), if_neg (by omega)]
theorem of_len (p : Pn) (r : Int) : ((ofL p r).length : Int) = (spF (pnS p) (pnT p) (pnK p) (pnI p) r).2 := by
  unfold ofL
  rw [rgL_len]
  have := sp_bd p r
  omega
theorem of_at (p : Pn) (r : Int) (k : Nat) (h : k < (ofL p r).length) : (ofL p r)[k]? = some ((spF (pnS p) (pnT p) (pnK p) (pnI p) r).1 + (k : Int)) := by
  unfold ofL rgL at h ⊢
  rw [List.length_map, List.length_range] at h
  rw [List.getElem?_map, List.getElem?_range h]
  rfl
end Go.Proofs.Ytnooedipanhkjaa
