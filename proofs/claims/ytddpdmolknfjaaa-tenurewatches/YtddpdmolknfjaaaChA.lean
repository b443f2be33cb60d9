/-
  What change's calls answer, and the document's: clone, Same, Check, Do, Read, Swap.
-/
import Derived.Test.YtddpdmolknfjaaaRows
import Derived.Test.YtddpdmolknfjaaaChP
import Derived.Test.YtddpdmolknfjaaaBlB
import Derived.Deep.CutRange
namespace Go.Proofs.Ytddpdmolknfjaaa
open Go.RowKit
set_option linter.unusedVariables false

abbrev cgC (k : Int) (vo vn : Value) : Array Value := #[.int .i64 k, vo, vn]
abbrev cgV (k : Int) (vo vn : Value) : Value := .agg (cgC k vo vn)
theorem info_cg (k : Int) (vo vn : Value) : (Try.prog.info? 51).map (·.size) = some (cgC k vo vn).size := by kernel_rfl
/-- Three cells of a block, in every world in which nothing of it has turned. -/
theorem cellsG {W : World} {g : Nat} {k : Int} {vo vn : Value} {t : TypeId} (h : Blk W g (cgC k vo vn) t) : (∀ V, Below W.heap.size W V → V.cell? ⟨g, 0, none⟩ = some (.int .i64 k)) ∧ (∀ V, Below W.heap.size W V → V.cell? ⟨g, 1, none⟩ = some vo) ∧ (∀ V, Below W.heap.size W V → V.cell? ⟨g, 2, none⟩ = some vn) :=
  ⟨fun V hb => (h.keep hb).at rfl, fun V hb => (h.keep hb).at rfl, fun V hb => (h.keep hb).at rfl⟩
theorem gne20 (w : World) : (binOp .neq 42 (Err 2) .nilIface).run Try.prog w = .ok (.bool true) w := by kernel_rfl
theorem neq00 (w : World) : (binOp .neq 42 .nilIface .nilIface).run Try.prog w = .ok (.bool false) w := by kernel_rfl
set_option maxHeartbeats 400000 in
theorem gclone_any (v : Value) (l : List Int) (w : World) (hv : Is w v l) (hl : l.length ≤ 100000) : Calls Try.prog 33 #[v] w fun e w' => ∃ v', e = .returned v' ∧ Io w' w.heap.size v' l ∧ Below w.heap.size w w' := by
  go_enter Try.func33, Try.ntmps33
  go_upto_region 1 with fail
  refine wp_region_lit ?_
  refine valS rfl v rfl ?_
  refine app_i w rfl rfl (l := []) (m := l) rfl (own_nil _ _) rfl hv rfl (by omega) (Below.refl _ _) ?_
  intro v' W' hown hnil hb hg hat
  go_wp2_with fail
  go_ret
  exact ⟨_, rfl, io_of hown, hb⟩
theorem gtake_next {α : Type} {l m : List α} {k : Nat} {x y : α} (h : l.take k = m.take k) (hx : l[k]? = some x) (hy : m[k]? = some y) (e : x = y) : l.take (k + 1) = m.take (k + 1) := by
  rw [List.take_add_one, List.take_add_one, h, hx, hy, e]
set_option maxHeartbeats 1000000 in
set_option maxRecDepth 100000 in
theorem gequal_any (v1 v2 : Value) (l m : List Int) (w : World) (h1 : Is w v1 l) (h2 : Is w v2 m) :
    Calls Try.prog 38 #[v1, v2] w fun r w' => r = .returned (.bool (decide (l = m))) ∧ Below w.heap.size w w' := by
  obtain ⟨q1, c1, g1, o1, rfl, hc1, hm1, hp1, hg1, hr1⟩ := h1
  obtain ⟨q2, c2, g2, o2, rfl, hc2, hm2, hp2, hg2, hr2⟩ := h2
  by_cases hl : l.length = m.length
  · generalize hn : l.length = n at *
    generalize hn2 : m.length = n2 at *
    subst hl
    have e0 : ((n : Int) != (n : Int)) = false := by simp
    go_enter Try.func38, Try.ntmps38
    go_wp2_with fail
    go_loopw [13] (fun i wr => ∃ k : Nat, k ≤ n ∧ i = .int .i64 (k : Int) ∧ l.take k = m.take k ∧ Below w.heap.size w wr) (fun i _ => n - (intOf i).toNat)
    case atStart => exact ⟨0, by omega, rfl, by simp, Below.refl _ _⟩
    case round =>
      obtain ⟨k, hk, rfl, ht, hb⟩ := hrel
      have HT : Hid (l.take k = m.take k) := ht
      clear ht
      by_cases c : k = n
      · subst c
        have HE : Hid (decide (l = m) = true) := by
          have := HT.out
          rw [List.take_of_length_le (by omega), List.take_of_length_le (by omega)] at this
          exact decide_eq_true this
        go_wp2_with fail
        go_ret
        exact ⟨ret_bool HE.out.symm, hb⟩
      · obtain ⟨x, hx⟩ : ∃ x, l[k]? = some x := ⟨l[k], List.getElem?_eq_getElem (by omega)⟩
        obtain ⟨y, hy⟩ : ∃ y, m[k]? = some y := ⟨m[k], List.getElem?_eq_getElem (by omega)⟩
        obtain rfl := hp1 (by omega)
        obtain rfl := hp2 (by omega)
        have d1 := (hb.cell (p := ⟨g1, o1 + k, none⟩) (hg1 (by omega))).trans (hr1 k x hx)
        have d2 := (hb.cell (p := ⟨g2, o2 + k, none⟩) (hg2 (by omega))).trans (hr2 k y hy)
        have hki : (k : Int) < (n : Int) := by omega
        have hkn : k < n := by omega
        by_cases e : x = y
        · have HN : Hid (l.take (k + 1) = m.take (k + 1)) := gtake_next HT.out hx hy e
          have e1 : (x != y) = false := by simp [e]
          clear hr1 hr2 hp1 hp2 hg1 hg2 hx hy hn hn2 e
          go_upto_region 6 with fail
          go_quiet (fail)
          go_wp2_with fail
          exact ⟨⟨k + 1, by omega, rfl, HN.out, ab_drewN hb _⟩, by simp only [intOf]; omega⟩
        · have HE : Hid (decide (l = m) = false) := decide_eq_false (fun h => by rw [h, hy] at hx; cases hx; exact absurd rfl e)
          have e1 : (x != y) = true := by simp [e]
          clear hr1 hr2 hp1 hp2 hg1 hg2 hx hy hn hn2 e
          go_upto_region 6 with fail
          go_quiet (fail)
          go_wp2_with fail
          go_ret
          exact ⟨ret_bool HE.out.symm, ab_drewN hb _⟩
  · have HE : Hid (decide (l = m) = false) := decide_eq_false (fun h => absurd (by rw [h]) hl)
    have e0 : ((l.length : Int) != (m.length : Int)) = true := by simp; omega
    clear hl hr1 hr2 hp1 hp2 hg1 hg2
    generalize l.length = n at *
    generalize m.length = n2 at *
    go_enter Try.func38, Try.ntmps38
    go_wp2_with fail
    go_ret
    exact ⟨ret_bool HE.out.symm, Below.refl _ _⟩
set_option maxHeartbeats 1000000 in
set_option maxRecDepth 100000 in
theorem gsameR_any (v1 v2 : Value) (l m : List Int) (w : World) (h1 : Is w v1 l) (h2 : Is w v2 m) :
    Calls Try.prog 36 #[v1, v2] w fun r w' => r = .returned (.bool (decide (l = m))) ∧ Below w.heap.size w w' := by
  obtain ⟨q1, c1, g1, o1, rfl, hc1, hm1, hp1, hg1, hr1⟩ := h1
  obtain ⟨q2, c2, g2, o2, rfl, hc2, hm2, hp2, hg2, hr2⟩ := h2
  by_cases hl : l.length = m.length
  · generalize hn : l.length = n at *
    generalize hn2 : m.length = n2 at *
    subst hl
    have e0 : ((n : Int) != (n : Int)) = false := by simp
    go_enter Try.func36, Try.ntmps36
    go_wp2_with fail
    go_loopw [5] (fun i wr => ∃ k : Nat, k ≤ n ∧ i = .int .i64 (k : Int) ∧ l.take k = m.take k ∧ Below w.heap.size w wr) (fun i _ => n - (intOf i).toNat)
    case atStart => exact ⟨0, by omega, rfl, by simp, Below.refl _ _⟩
    case round =>
      obtain ⟨k, hk, rfl, ht, hb⟩ := hrel
      have HT : Hid (l.take k = m.take k) := ht
      clear ht
      by_cases c : k = n
      · subst c
        have HE : Hid (decide (l = m) = true) := by
          have := HT.out
          rw [List.take_of_length_le (by omega), List.take_of_length_le (by omega)] at this
          exact decide_eq_true this
        go_wp2_with fail
        go_ret
        exact ⟨ret_bool HE.out.symm, hb⟩
      · obtain ⟨x, hx⟩ : ∃ x, l[k]? = some x := ⟨l[k], List.getElem?_eq_getElem (by omega)⟩
        obtain ⟨y, hy⟩ : ∃ y, m[k]? = some y := ⟨m[k], List.getElem?_eq_getElem (by omega)⟩
        obtain rfl := hp1 (by omega)
        obtain rfl := hp2 (by omega)
        have d1 := (hb.cell (p := ⟨g1, o1 + k, none⟩) (hg1 (by omega))).trans (hr1 k x hx)
        have d2 := (hb.cell (p := ⟨g2, o2 + k, none⟩) (hg2 (by omega))).trans (hr2 k y hy)
        have hki : (k : Int) < (n : Int) := by omega
        have hkn : k < n := by omega
        by_cases e : x = y
        · have HN : Hid (l.take (k + 1) = m.take (k + 1)) := gtake_next HT.out hx hy e
          have e1 : (x != y) = false := by simp [e]
          clear hr1 hr2 hp1 hp2 hg1 hg2 hx hy hn hn2 e
          go_upto_region 6 with fail
          go_quiet (fail)
          go_wp2_with fail
          exact ⟨⟨k + 1, by omega, rfl, HN.out, ab_drewN hb _⟩, by simp only [intOf]; omega⟩
        · have HE : Hid (decide (l = m) = false) := decide_eq_false (fun h => by rw [h, hy] at hx; cases hx; exact absurd rfl e)
          have e1 : (x != y) = true := by simp [e]
          clear hr1 hr2 hp1 hp2 hg1 hg2 hx hy hn hn2 e
          go_upto_region 6 with fail
          go_quiet (fail)
          go_wp2_with fail
          go_ret
          exact ⟨ret_bool HE.out.symm, ab_drewN hb _⟩
  · have HE : Hid (decide (l = m) = false) := decide_eq_false (fun h => absurd (by rw [h]) hl)
    have e0 : ((l.length : Int) != (m.length : Int)) = true := by simp; omega
    clear hl hr1 hr2 hp1 hp2 hg1 hg2
    generalize l.length = n at *
    generalize m.length = n2 at *
    go_enter Try.func36, Try.ntmps36
    go_wp2_with fail
    go_ret
    exact ⟨ret_bool HE.out.symm, Below.refl _ _⟩
theorem gsame_any (v1 v2 : Value) (l m : List Int) (w : World) (h1 : Is w v1 l) (h2 : Is w v2 m) :
    Calls Try.prog 31 #[v1, v2] w fun r w' => r = .returned (.bool (decide (l = m))) ∧ Below w.heap.size w w' := by
  go_enter Try.func31, Try.ntmps31
  go_wp2_with fail
  refine (gequal_any v1 v2 l m _ h1 h2).mono ?_
  rintro e W1 ⟨rfl, b1⟩
  go_wp2_with fail
  go_ret
  exact ⟨rfl, b1⟩
theorem ret_err {n m : Nat} (h : n = m) : (Ending.returned (errV m)) = .returned (errV n) := by rw [h]
set_option maxHeartbeats 1000000 in
theorem gcheck_any (k : Int) (q1 : Option Addr) (n1 c1 : Nat) (q2 : Option Addr) (n2 c2 : Nat) (w : World) :
    Calls Try.prog 32 #[cgV k (.slice q1 n1 c1) (.slice q2 n2 c2)] w fun e w' => e = .returned (errV (ckN k n1 n2)) ∧ Below w.heap.size w w' := by
  go_enter Try.func32, Try.ntmps32
  go_upto_region 1 with fail
  obtain ⟨A, hAe, hB, hw⟩ := blk1 w (cgC k (.slice q1 n1 c1) (.slice q2 n2 c2)) 51
  rw [hAe]
  obtain ⟨c0, c1', c2'⟩ := cellsG hB
  have hbv := Below.refl A.heap.size A
  clear hAe hB
  by_cases k1 : k = 1
  · subst k1
    by_cases a1 : n1 = 0
    · subst a1
      by_cases a2 : n2 = 0
      · subst a2
        have HN : Hid (ckN 1 0 0 = 0) := by show _ = _; decide
        go_wp2_with fail
        go_ret
        exact ⟨ret_err HN.out, hw⟩
      · have HN : Hid (ckN 1 0 n2 = 2) := ckN_no (by rw [gdC_1]; simp [a2])
        have x1 : (0 : Int) < (n2 : Int) := by omega
        have x2 : 0 < n2 := by omega
        go_wp2_with fail
        go_ret
        exact ⟨ret_err HN.out, hw⟩
    · have HN : Hid (ckN 1 n1 n2 = 2) := ckN_no (by rw [gdC_1]; simp [a1])
      have x1 : (0 : Int) < (n1 : Int) := by omega
      have x2 : 0 < n1 := by omega
      go_wp2_with fail
      go_ret
      exact ⟨ret_err HN.out, hw⟩
  · have y1 : (k == 1) = false := by simp [k1]
    by_cases k2 : k = 2
    · subst k2
      by_cases a1 : n1 ≤ 32
      · have x1 : ¬ (32 : Int) < (n1 : Int) := by omega
        have x2 : ¬ 32 < n1 := by omega
        have x5 : (n1 : Int) ≤ 32 := by omega
        by_cases a2 : n2 ≤ 32
        · have HN : Hid (ckN 2 n1 n2 = 0) := ckN_ok (by rw [gdC_2]; simp [a1, a2])
          have x3 : ¬ (32 : Int) < (n2 : Int) := by omega
          have x4 : ¬ 32 < n2 := by omega
          have x6 : (n2 : Int) ≤ 32 := by omega
          go_wp2_with fail
          go_ret
          exact ⟨ret_err HN.out, hw⟩
        · have HN : Hid (ckN 2 n1 n2 = 2) := ckN_no (by rw [gdC_2]; simp [a2])
          have x3 : (32 : Int) < (n2 : Int) := by omega
          have x4 : 32 < n2 := by omega
          have x6 : ¬ (n2 : Int) ≤ 32 := by omega
          go_wp2_with fail
          go_ret
          exact ⟨ret_err HN.out, hw⟩
      · have HN : Hid (ckN 2 n1 n2 = 2) := ckN_no (by rw [gdC_2]; simp [a1])
        have x1 : (32 : Int) < (n1 : Int) := by omega
        have x2 : 32 < n1 := by omega
        have x6 : ¬ (n1 : Int) ≤ 32 := by omega
        go_wp2_with fail
        go_ret
        exact ⟨ret_err HN.out, hw⟩
    · have y2 : (k == 2) = false := by simp [k2]
      have HN : Hid (ckN k n1 n2 = 2) := ckN_no (gdC_x k1 k2)
      clear k1 k2
      go_wp2_with fail
      go_ret
      exact ⟨ret_err HN.out, hw⟩
end Go.Proofs.Ytddpdmolknfjaaa
