/-
  ballot.clone, ballotOf; the document's Good.
  What change's calls answer, and the document's: clone, Same, Check, Do, Read, Swap.
  change.Do, Read, Swap; the document's Do; copies with a mark: estuarylaw10.marked, stands.
-/
import Derived.Test.YtodmhohccclhmaaPk08
import Derived.Test.YtodmhohccclhmaaRows
import Derived.Test.YtodmhohccclhmaaPk01
import Derived.Deep.CutRange
namespace Go.Proofs.Ytodmhohccclhmaa
open Go.RowKit
set_option linter.unusedVariables false

theorem own_nil (W : World) (base : Nat) : W.ownsRow base 3 1 (.slice none 0 0) 0 (ints []) := ⟨rfl, .inl ⟨rfl, rfl⟩⟩
set_option maxHeartbeats 400000 in
theorem bclone_any (v : Value) (l : List Int) (w : World) (hv : Is w v l) (hl : l.length ≤ 100000) : Calls Try.prog 50 #[v] w fun e w' => ∃ v', e = .returned v' ∧ Io w' w.heap.size v' l ∧ Below w.heap.size w w' := by
  go_enter Try.func50, Try.ntmps50
  go_upto_region 1 with fail
  refine wp_region_lit ?_
  refine valS rfl v rfl ?_
  refine app_i w rfl rfl (l := []) (m := l) rfl (own_nil _ _) rfl hv rfl (by omega) (Below.refl _ _) ?_
  intro v' W' hown hnil hb hg hat
  go_wp2_with fail
  go_ret
  exact ⟨_, rfl, io_of hown, hb⟩
theorem gd_0 {p a : Bt} {n : Nat} (h : ¬ n ≤ 32) : gdN p a n = false := by
  unfold gdN
  rw [show decide (n = 0) = false from decide_eq_false (by omega), show decide (n ≤ 32) = false from decide_eq_false h]
  simp
theorem ne3 (a : Bt) : (!(decide (a.n = 0) && (decide (a.nd = 0) && decide (a.lf = 0)))) = !noB a := by rw [and3]
theorem gd_6 {p a : Bt} {n : Nat} (h1 : whB p = true) (h2 : whB a = true) (h3 : lt3 p a = false) (h4 : n ≤ 32) (h5 : noB a = false) : gdN p a n = true := by unfold gdN; rw [h1, h2, h3, h5]; simpa using h4
section
attribute [local go_sem] ok_foldB
end
end Go.Proofs.Ytodmhohccclhmaa
namespace Go.Proofs.Ytodmhohccclhmaa
open Go.RowKit
set_option linter.unusedVariables false

abbrev cgC (k : Int) (vo vn : Value) : Array Value := #[.int .i64 k, vo, vn]
abbrev cgV (k : Int) (vo vn : Value) : Value := .agg (cgC k vo vn)
theorem info_cg (k : Int) (vo vn : Value) : (Try.prog.info? 26).map (·.size) = some (cgC k vo vn).size := by kernel_rfl
/-- Three cells of a block, in every world in which nothing of it has turned. -/
theorem cellsG {W : World} {g : Nat} {k : Int} {vo vn : Value} {t : TypeId} (h : Blk W g (cgC k vo vn) t) : (∀ V, Below W.heap.size W V → V.cell? ⟨g, 0, none⟩ = some (.int .i64 k)) ∧ (∀ V, Below W.heap.size W V → V.cell? ⟨g, 1, none⟩ = some vo) ∧ (∀ V, Below W.heap.size W V → V.cell? ⟨g, 2, none⟩ = some vn) :=
  ⟨fun V hb => (h.keep hb).at rfl, fun V hb => (h.keep hb).at rfl, fun V hb => (h.keep hb).at rfl⟩
theorem gne20 (w : World) : (binOp .neq 55 (Err 2) .nilIface).run Try.prog w = .ok (.bool true) w := by kernel_rfl
theorem neq00 (w : World) : (binOp .neq 55 .nilIface .nilIface).run Try.prog w = .ok (.bool false) w := by kernel_rfl
set_option maxHeartbeats 400000 in
theorem gclone_any (v : Value) (l : List Int) (w : World) (hv : Is w v l) (hl : l.length ≤ 100000) : Calls Try.prog 52 #[v] w fun e w' => ∃ v', e = .returned v' ∧ Io w' w.heap.size v' l ∧ Below w.heap.size w w' := by
  go_enter Try.func52, Try.ntmps52
  go_upto_region 1 with fail
  refine wp_region_lit ?_
  refine valS rfl v rfl ?_
  refine app_i w rfl rfl (l := []) (m := l) rfl (own_nil _ _) rfl hv rfl (by omega) (Below.refl _ _) ?_
  intro v' W' hown hnil hb hg hat
  go_wp2_with fail
  go_ret
  exact ⟨_, rfl, io_of hown, hb⟩
theorem gtake_next {α : Type} {l m : List α} {k : Nat} {x y : α} (h : l.take k = m.take k) (hx : l[k]? = some x) (hy : m[k]? = some y) (e : x = y) : l.take (k + 1) = m.take (k + 1) := by
  rw [List.take_add_one, List.take_add_one, h, hx, hy, e]
set_option maxHeartbeats 1000000 in
set_option maxRecDepth 100000 in
theorem gequal_any (v1 v2 : Value) (l m : List Int) (w : World) (h1 : Is w v1 l) (h2 : Is w v2 m) :
    Calls Try.prog 56 #[v1, v2] w fun r w' => r = .returned (.bool (decide (l = m))) ∧ Below w.heap.size w w' := by
  obtain ⟨q1, c1, g1, o1, rfl, hc1, hm1, hp1, hg1, hr1⟩ := h1
  obtain ⟨q2, c2, g2, o2, rfl, hc2, hm2, hp2, hg2, hr2⟩ := h2
  by_cases hl : l.length = m.length
  · generalize hn : l.length = n at *
    generalize hn2 : m.length = n2 at *
    subst hl
    have e0 : ((n : Int) != (n : Int)) = false := by simp
    go_enter Try.func56, Try.ntmps56
    go_wp2_with fail
    go_loopw [13] (fun i wr => ∃ k : Nat, k ≤ n ∧ i = .int .i64 (k : Int) ∧ l.take k = m.take k ∧ Below w.heap.size w wr) (fun i _ => n - (intOf i).toNat)
    case atStart => exact ⟨0, by omega, rfl, by simp, Below.refl _ _⟩
    case round =>
      obtain ⟨k, hk, rfl, ht, hb⟩ := hrel
      have HT : Hid (l.take k = m.take k) := ht
      clear ht
      by_cases c : k = n
      · subst c
        have HE : Hid (decide (l = m) = true) := by
          have := HT.out
          rw [List.take_of_length_le (by omega), List.take_of_length_le (by omega)] at this
          exact decide_eq_true this
        go_wp2_with fail
        go_ret
        exact ⟨ret_bool HE.out.symm, hb⟩
      · obtain ⟨x, hx⟩ : ∃ x, l[k]? = some x := ⟨l[k], List.getElem?_eq_getElem (by omega)⟩
        obtain ⟨y, hy⟩ : ∃ y, m[k]? = some y := ⟨m[k], List.getElem?_eq_getElem (by omega)⟩
        obtain rfl := hp1 (by omega)
        obtain rfl := hp2 (by omega)
        have d1 := (hb.cell (p := ⟨g1, o1 + k, none⟩) (hg1 (by omega))).trans (hr1 k x hx)
        have d2 := (hb.cell (p := ⟨g2, o2 + k, none⟩) (hg2 (by omega))).trans (hr2 k y hy)
        have hki : (k : Int) < (n : Int) := by omega
        have hkn : k < n := by omega
        by_cases e : x = y
        · have HN : Hid (l.take (k + 1) = m.take (k + 1)) := gtake_next HT.out hx hy e
          have e1 : (x != y) = false := by simp [e]
          clear hr1 hr2 hp1 hp2 hg1 hg2 hx hy hn hn2 e
          go_upto_region 6 with fail
          go_quiet (fail)
          go_wp2_with fail
          exact ⟨⟨k + 1, by omega, rfl, HN.out, ab_drewN hb _⟩, by simp only [intOf]; omega⟩
        · have HE : Hid (decide (l = m) = false) := decide_eq_false (fun h => by rw [h, hy] at hx; cases hx; exact absurd rfl e)
          have e1 : (x != y) = true := by simp [e]
          clear hr1 hr2 hp1 hp2 hg1 hg2 hx hy hn hn2 e
          go_upto_region 6 with fail
          go_quiet (fail)
          go_wp2_with fail
          go_ret
          exact ⟨ret_bool HE.out.symm, ab_drewN hb _⟩
  · have HE : Hid (decide (l = m) = false) := decide_eq_false (fun h => absurd (by rw [h]) hl)
    have e0 : ((l.length : Int) != (m.length : Int)) = true := by simp; omega
    clear hl hr1 hr2 hp1 hp2 hg1 hg2
    generalize l.length = n at *
    generalize m.length = n2 at *
    go_enter Try.func56, Try.ntmps56
    go_wp2_with fail
    go_ret
    exact ⟨ret_bool HE.out.symm, Below.refl _ _⟩
set_option maxHeartbeats 1000000 in
set_option maxRecDepth 100000 in
theorem gsameR_any (v1 v2 : Value) (l m : List Int) (w : World) (h1 : Is w v1 l) (h2 : Is w v2 m) :
    Calls Try.prog 51 #[v1, v2] w fun r w' => r = .returned (.bool (decide (l = m))) ∧ Below w.heap.size w w' := by
  obtain ⟨q1, c1, g1, o1, rfl, hc1, hm1, hp1, hg1, hr1⟩ := h1
  obtain ⟨q2, c2, g2, o2, rfl, hc2, hm2, hp2, hg2, hr2⟩ := h2
  by_cases hl : l.length = m.length
  · generalize hn : l.length = n at *
    generalize hn2 : m.length = n2 at *
    subst hl
    have e0 : ((n : Int) != (n : Int)) = false := by simp
    go_enter Try.func51, Try.ntmps51
    go_wp2_with fail
    go_loopw [5] (fun i wr => ∃ k : Nat, k ≤ n ∧ i = .int .i64 (k : Int) ∧ l.take k = m.take k ∧ Below w.heap.size w wr) (fun i _ => n - (intOf i).toNat)
    case atStart => exact ⟨0, by omega, rfl, by simp, Below.refl _ _⟩
    case round =>
      obtain ⟨k, hk, rfl, ht, hb⟩ := hrel
      have HT : Hid (l.take k = m.take k) := ht
      clear ht
      by_cases c : k = n
      · subst c
        have HE : Hid (decide (l = m) = true) := by
          have := HT.out
          rw [List.take_of_length_le (by omega), List.take_of_length_le (by omega)] at this
          exact decide_eq_true this
        go_wp2_with fail
        go_ret
        exact ⟨ret_bool HE.out.symm, hb⟩
      · obtain ⟨x, hx⟩ : ∃ x, l[k]? = some x := ⟨l[k], List.getElem?_eq_getElem (by omega)⟩
        obtain ⟨y, hy⟩ : ∃ y, m[k]? = some y := ⟨m[k], List.getElem?_eq_getElem (by omega)⟩
        obtain rfl := hp1 (by omega)
        obtain rfl := hp2 (by omega)
        have d1 := (hb.cell (p := ⟨g1, o1 + k, none⟩) (hg1 (by omega))).trans (hr1 k x hx)
        have d2 := (hb.cell (p := ⟨g2, o2 + k, none⟩) (hg2 (by omega))).trans (hr2 k y hy)
        have hki : (k : Int) < (n : Int) := by omega
        have hkn : k < n := by omega
        by_cases e : x = y
        · have HN : Hid (l.take (k + 1) = m.take (k + 1)) := gtake_next HT.out hx hy e
          have e1 : (x != y) = false := by simp [e]
          clear hr1 hr2 hp1 hp2 hg1 hg2 hx hy hn hn2 e
          go_upto_region 6 with fail
          go_quiet (fail)
          go_wp2_with fail
          exact ⟨⟨k + 1, by omega, rfl, HN.out, ab_drewN hb _⟩, by simp only [intOf]; omega⟩
        · have HE : Hid (decide (l = m) = false) := decide_eq_false (fun h => by rw [h, hy] at hx; cases hx; exact absurd rfl e)
          have e1 : (x != y) = true := by simp [e]
          clear hr1 hr2 hp1 hp2 hg1 hg2 hx hy hn hn2 e
          go_upto_region 6 with fail
          go_quiet (fail)
          go_wp2_with fail
          go_ret
          exact ⟨ret_bool HE.out.symm, ab_drewN hb _⟩
  · have HE : Hid (decide (l = m) = false) := decide_eq_false (fun h => absurd (by rw [h]) hl)
    have e0 : ((l.length : Int) != (m.length : Int)) = true := by simp; omega
    clear hl hr1 hr2 hp1 hp2 hg1 hg2
    generalize l.length = n at *
    generalize m.length = n2 at *
    go_enter Try.func51, Try.ntmps51
    go_wp2_with fail
    go_ret
    exact ⟨ret_bool HE.out.symm, Below.refl _ _⟩
theorem gsame_any (v1 v2 : Value) (l m : List Int) (w : World) (h1 : Is w v1 l) (h2 : Is w v2 m) :
    Calls Try.prog 53 #[v1, v2] w fun r w' => r = .returned (.bool (decide (l = m))) ∧ Below w.heap.size w w' := by
  go_enter Try.func53, Try.ntmps53
  go_wp2_with fail
  refine (gequal_any v1 v2 l m _ h1 h2).mono ?_
  rintro e W1 ⟨rfl, b1⟩
  go_wp2_with fail
  go_ret
  exact ⟨rfl, b1⟩
theorem ret_err {n m : Nat} (h : n = m) : (Ending.returned (errV m)) = .returned (errV n) := by rw [h]
set_option maxHeartbeats 1000000 in
theorem gcheck_any (k : Int) (q1 : Option Addr) (n1 c1 : Nat) (q2 : Option Addr) (n2 c2 : Nat) (w : World) :
    Calls Try.prog 38 #[cgV k (.slice q1 n1 c1) (.slice q2 n2 c2)] w fun e w' => e = .returned (errV (ckN k n1 n2)) ∧ Below w.heap.size w w' := by
  go_enter Try.func38, Try.ntmps38
  go_upto_region 1 with fail
  obtain ⟨A, hAe, hB, hw⟩ := blk1 w (cgC k (.slice q1 n1 c1) (.slice q2 n2 c2)) 26
  rw [hAe]
  obtain ⟨c0, c1', c2'⟩ := cellsG hB
  have hbv := Below.refl A.heap.size A
  clear hAe hB
  by_cases k1 : k = 1
  · subst k1
    by_cases a1 : n1 = 0
    · subst a1
      by_cases a2 : n2 = 0
      · subst a2
        have HN : Hid (ckN 1 0 0 = 0) := by show _ = _; decide
        go_wp2_with fail
        go_ret
        exact ⟨ret_err HN.out, hw⟩
      · have HN : Hid (ckN 1 0 n2 = 2) := ckN_no (by rw [gdC_1]; simp [a2])
        have x1 : (0 : Int) < (n2 : Int) := by omega
        have x2 : 0 < n2 := by omega
        go_wp2_with fail
        go_ret
        exact ⟨ret_err HN.out, hw⟩
    · have HN : Hid (ckN 1 n1 n2 = 2) := ckN_no (by rw [gdC_1]; simp [a1])
      have x1 : (0 : Int) < (n1 : Int) := by omega
      have x2 : 0 < n1 := by omega
      go_wp2_with fail
      go_ret
      exact ⟨ret_err HN.out, hw⟩
  · have y1 : (k == 1) = false := by simp [k1]
    by_cases k2 : k = 2
    · subst k2
      by_cases a1 : n1 ≤ 32
      · have x1 : ¬ (32 : Int) < (n1 : Int) := by omega
        have x2 : ¬ 32 < n1 := by omega
        have x5 : (n1 : Int) ≤ 32 := by omega
        by_cases a2 : n2 ≤ 32
        · have HN : Hid (ckN 2 n1 n2 = 0) := ckN_ok (by rw [gdC_2]; simp [a1, a2])
          have x3 : ¬ (32 : Int) < (n2 : Int) := by omega
          have x4 : ¬ 32 < n2 := by omega
          have x6 : (n2 : Int) ≤ 32 := by omega
          go_wp2_with fail
          go_ret
          exact ⟨ret_err HN.out, hw⟩
        · have HN : Hid (ckN 2 n1 n2 = 2) := ckN_no (by rw [gdC_2]; simp [a2])
          have x3 : (32 : Int) < (n2 : Int) := by omega
          have x4 : 32 < n2 := by omega
          have x6 : ¬ (n2 : Int) ≤ 32 := by omega
          go_wp2_with fail
          go_ret
          exact ⟨ret_err HN.out, hw⟩
      · have HN : Hid (ckN 2 n1 n2 = 2) := ckN_no (by rw [gdC_2]; simp [a1])
        have x1 : (32 : Int) < (n1 : Int) := by omega
        have x2 : 32 < n1 := by omega
        have x6 : ¬ (n1 : Int) ≤ 32 := by omega
        go_wp2_with fail
        go_ret
        exact ⟨ret_err HN.out, hw⟩
    · have y2 : (k == 2) = false := by simp [k2]
      have HN : Hid (ckN k n1 n2 = 2) := ckN_no (gdC_x k1 k2)
      clear k1 k2
      go_wp2_with fail
      go_ret
      exact ⟨ret_err HN.out, hw⟩
set_option maxHeartbeats 1000000 in
theorem ggood_any (k : Int) (q1 : Option Addr) (n1 c1 : Nat) (q2 : Option Addr) (n2 c2 : Nat) (w : World) :
    Calls Try.prog 39 #[cgV k (.slice q1 n1 c1) (.slice q2 n2 c2)] w fun e w' => e = .returned (.bool (gdC k n1 n2)) ∧ Below w.heap.size w w' := by
  go_enter Try.func39, Try.ntmps39
  go_upto_region 1 with fail
  obtain ⟨A, hAe, hB, hw⟩ := blk1 w (cgC k (.slice q1 n1 c1) (.slice q2 n2 c2)) 26
  rw [hAe]
  obtain ⟨c0, c1', c2'⟩ := cellsG hB
  have hbv := Below.refl A.heap.size A
  clear hAe hB
  by_cases k1 : k = 1
  · subst k1
    by_cases a1 : n1 = 0
    · subst a1
      by_cases a2 : n2 = 0
      · subst a2
        have HN : Hid (gdC 1 0 0 = true) := by show _ = _; decide
        go_wp2_with fail
        go_ret
        exact ⟨ret_bool HN.out.symm, hw⟩
      · have HN : Hid (gdC 1 0 n2 = false) := by show _ = _; rw [gdC_1]; simp [a2]
        have x1 : ((n2 : Int) == 0) = false := by simp [a2]
        go_wp2_with fail
        go_ret
        exact ⟨ret_bool HN.out.symm, hw⟩
    · have HN : Hid (gdC 1 n1 n2 = false) := by show _ = _; rw [gdC_1]; simp [a1]
      have x1 : ((n1 : Int) == 0) = false := by simp [a1]
      go_wp2_with fail
      go_ret
      exact ⟨ret_bool HN.out.symm, hw⟩
  · have y1 : (k == 1) = false := by simp [k1]
    by_cases k2 : k = 2
    · subst k2
      by_cases a1 : n1 ≤ 32
      · have x5 : (n1 : Int) ≤ 32 := by omega
        by_cases a2 : n2 ≤ 32
        · have HN : Hid (gdC 2 n1 n2 = true) := by show _ = _; rw [gdC_2]; simp [a1, a2]
          have x6 : (n2 : Int) ≤ 32 := by omega
          go_wp2_with fail
          go_ret
          exact ⟨ret_bool HN.out.symm, hw⟩
        · have HN : Hid (gdC 2 n1 n2 = false) := by show _ = _; rw [gdC_2]; simp [a2]
          have x6 : ¬ (n2 : Int) ≤ 32 := by omega
          go_wp2_with fail
          go_ret
          exact ⟨ret_bool HN.out.symm, hw⟩
      · have HN : Hid (gdC 2 n1 n2 = false) := by show _ = _; rw [gdC_2]; simp [a1]
        have x6 : ¬ (n1 : Int) ≤ 32 := by omega
        go_wp2_with fail
        go_ret
        exact ⟨ret_bool HN.out.symm, hw⟩
    · have y2 : (k == 2) = false := by simp [k2]
      have HN : Hid (gdC k n1 n2 = false) := gdC_x k1 k2
      clear k1 k2
      go_wp2_with fail
      go_ret
      exact ⟨ret_bool HN.out.symm, hw⟩
end Go.Proofs.Ytodmhohccclhmaa
namespace Go.Proofs.Ytodmhohccclhmaa
open Go.RowKit
set_option linter.unusedVariables false

theorem gio_nil (W : World) (base : Nat) : Io W base (.slice none 0 0) [] := own_nil W base
/-- What Do answers: a value and an error. -/
def DoE (W : World) (base : Nat) (l : List Int) (x : Value) (e : Ending) : Prop := ∃ q n c, e = .returned (.tuple #[.slice q n c, x]) ∧ Io W base (.slice q n c) l ∧ l.length = n
theorem doe_of {W : World} {base : Nat} {v : Value} {l m : List Int} {n k : Nat} (hv : Io W base v l) (hl : m = l) (hn : n = k) : DoE W base m (errV n) (.returned (.tuple #[v, errV k])) := by
  subst hl hn
  obtain ⟨q, c, e⟩ := hv.is.form
  subst e
  exact ⟨q, _, c, rfl, hv, rfl⟩
set_option maxHeartbeats 1000000 in
theorem gdo_any (c : Cg) (vo vn v : Value) (l : List Int) (w : World) (ho : Is w vo c.o) (hn : Is w vn c.n) (hv : Is w v l) (hl : l.length ≤ 100000) :
    Calls Try.prog 45 #[cgV c.k vo vn, v] w fun e w' => DoE w' w.heap.size (doL c l) (errV (doN c l)) e ∧ Below w.heap.size w w' := by
  obtain ⟨q1, c1, e⟩ := ho.form
  subst e
  obtain ⟨q2, c2, e⟩ := hn.form
  subst e
  obtain ⟨n1, hn1⟩ : ∃ n, c.o.length = n := ⟨_, rfl⟩
  obtain ⟨n2, hn2⟩ : ∃ n, c.n.length = n := ⟨_, rfl⟩
  rw [hn1] at ho ⊢
  rw [hn2] at hn ⊢
  have HG : gdC c.k n1 n2 = gdG c := by unfold gdG; rw [hn1, hn2]
  obtain ⟨k, hk⟩ : ∃ k, c.k = k := ⟨_, rfl⟩
  rw [hk] at HG ⊢
  go_enter Try.func45, Try.ntmps45
  go_upto_region 1 with fail
  obtain ⟨A, hAe, hB, hw⟩ := blk1 w (cgC k (.slice q1 n1 c1) (.slice q2 n2 c2)) 26
  rw [hAe]
  obtain ⟨d0, d1, d2⟩ := cellsG hB
  have hbv := Below.refl A.heap.size A
  clear hAe hB
  go_wp2_with fail
  refine (gcheck_any k q1 n1 c1 q2 n2 c2 _).mono ?_
  rintro e W1 ⟨rfl, b1⟩
  have hbv := ab_trans hbv b1
  have hwv := ab_trans hw hbv
  have zw := hwv.size
  cases h1 : gdG c
  · have HN : Hid (doN c l = 2 ∧ doL c l = l) := do_form h1
    rw [show ckN k n1 n2 = 2 from ckN_no (by rw [HG, h1]), errV_no (by decide)]
    have E1 := gne20
    go_wp2_with fail
    refine (gclone_any v l _ (hv.keep hwv) hl).mono ?_
    rintro e W2 ⟨v', rfl, hO, b2⟩
    go_wp2_with fail
    go_ret2
    exact ⟨doe_of (hO.less zw) HN.out.2 HN.out.1, ab_trans hwv b2⟩
  · rw [show ckN k n1 n2 = 0 from ckN_ok (by rw [HG, h1]), errV_ok rfl]
    have E1 := neq00
    rcases gd_kind h1 with e1 | e1
    · have HN : Hid (doN c l = 0 ∧ doL c l = l) := do_read h1 e1
      rw [hk] at e1
      subst e1
      go_wp2_with fail
      refine (gclone_any v l _ (hv.keep hwv) hl).mono ?_
      rintro e W2 ⟨v', rfl, hO, b2⟩
      go_wp2_with fail
      go_ret2
      exact ⟨doe_of (hO.less zw) HN.out.2 HN.out.1, ab_trans hwv b2⟩
    · have e2 := e1
      rw [hk] at e2
      subst e2
      have y1 : ((2 : Int) == 1) = false := by decide
      go_wp2_with fail
      refine (gsame_any v _ l c.o _ (hv.keep hwv) (ho.keep hwv)).mono ?_
      rintro e W2 ⟨rfl, b2⟩
      have hbv := ab_trans hbv b2
      have hwv := ab_trans hw hbv
      have zw := hwv.size
      by_cases h2 : l = c.o
      · have HN : Hid (doN c l = 0 ∧ doL c l = c.n) := do_swap h1 e1 h2
        rw [decide_eq_true h2]
        have hz := (gd_small h1).2
        clear h2
        go_wp2_with fail
        refine (gclone_any _ c.n _ (hn.keep hwv) (by omega)).mono ?_
        rintro e W3 ⟨v', rfl, hO, b3⟩
        go_wp2_with fail
        go_ret2
        exact ⟨doe_of (hO.less zw) HN.out.2 HN.out.1, ab_trans hwv b3⟩
      · have HN : Hid (doN c l = 11 ∧ doL c l = l) := do_stale h1 e1 h2
        rw [decide_eq_false h2]
        clear h2
        go_wp2_with fail
        refine (gclone_any v l _ (hv.keep hwv) hl).mono ?_
        rintro e W3 ⟨v', rfl, hO, b3⟩
        go_wp2_with fail
        go_ret2
        exact ⟨doe_of (hO.less zw) HN.out.2 HN.out.1, ab_trans hwv b3⟩
/-- What the document's Do answers. -/
def DoI (W : World) (l : List Int) (x : Nat) (e : Ending) : Prop := ∃ q n c, e = .returned (.tuple #[.slice q n c, .int .i64 (x : Int)]) ∧ Is W (.slice q n c) l ∧ l.length = n
theorem doi_of {W : World} {v : Value} {l m : List Int} {n k : Nat} {K : Int} (hv : Is W v l) (hl : m = l) (hn : n = k) (hK : K = (k : Int)) : DoI W m n (.returned (.tuple #[v, .int .i64 K])) := by
  subst hl hn hK
  obtain ⟨q, c, e⟩ := hv.form
  subst e
  exact ⟨q, _, c, rfl, hv, rfl⟩
set_option maxHeartbeats 1000000 in
theorem gdoR_any (c : Cg) (vo vn v : Value) (l : List Int) (w : World) (ho : Is w vo c.o) (hn : Is w vn c.n) (hv : Is w v l) :
    Calls Try.prog 41 #[cgV c.k vo vn, v] w fun e w' => DoI w' (doL c l) (doN c l) e ∧ Below w.heap.size w w' := by
  obtain ⟨q1, c1, e⟩ := ho.form
  subst e
  obtain ⟨q2, c2, e⟩ := hn.form
  subst e
  obtain ⟨n1, hn1⟩ : ∃ n, c.o.length = n := ⟨_, rfl⟩
  obtain ⟨n2, hn2⟩ : ∃ n, c.n.length = n := ⟨_, rfl⟩
  rw [hn1] at ho ⊢
  rw [hn2] at hn ⊢
  have HG : gdC c.k n1 n2 = gdG c := by unfold gdG; rw [hn1, hn2]
  obtain ⟨k, hk⟩ : ∃ k, c.k = k := ⟨_, rfl⟩
  rw [hk] at HG ⊢
  go_enter Try.func41, Try.ntmps41
  go_upto_region 1 with fail
  obtain ⟨A, hAe, hB, hw⟩ := blk1 w (cgC k (.slice q1 n1 c1) (.slice q2 n2 c2)) 26
  rw [hAe]
  obtain ⟨d0, d1, d2⟩ := cellsG hB
  have hbv := Below.refl A.heap.size A
  clear hAe hB
  go_wp2_with fail
  refine (ggood_any k q1 n1 c1 q2 n2 c2 _).mono ?_
  rintro e W1 ⟨rfl, b1⟩
  rw [HG]
  have hbv := ab_trans hbv b1
  have hwv := ab_trans hw hbv
  cases h1 : gdG c
  · have HN : Hid (doN c l = 2 ∧ doL c l = l) := do_form h1
    go_wp2_with fail
    go_ret2
    exact ⟨doi_of (hv.keep hwv) HN.out.2 HN.out.1 rfl, hwv⟩
  · rcases gd_kind h1 with e1 | e1
    · have HN : Hid (doN c l = 0 ∧ doL c l = l) := do_read h1 e1
      rw [hk] at e1
      subst e1
      go_wp2_with fail
      go_ret2
      exact ⟨doi_of (hv.keep hwv) HN.out.2 HN.out.1 rfl, hwv⟩
    · have e2 := e1
      rw [hk] at e2
      subst e2
      go_wp2_with fail
      refine (gsameR_any _ v c.o l _ (ho.keep hwv) (hv.keep hwv)).mono ?_
      rintro e W2 ⟨rfl, b2⟩
      have hbv := ab_trans hbv b2
      have hwv := ab_trans hw hbv
      by_cases h2 : l = c.o
      · have HN : Hid (doN c l = 0 ∧ doL c l = c.n) := do_swap h1 e1 h2
        rw [decide_eq_true h2.symm]
        clear h2
        go_wp2_with fail
        go_ret2
        exact ⟨doi_of (hn.keep hwv) HN.out.2 HN.out.1 rfl, hwv⟩
      · have HN : Hid (doN c l = 11 ∧ doL c l = l) := do_stale h1 e1 h2
        rw [decide_eq_false (fun h => h2 h.symm)]
        clear h2
        go_wp2_with fail
        go_ret2
        exact ⟨doi_of (hv.keep hwv) HN.out.2 HN.out.1 rfl, hwv⟩
theorem cg_one (k : Int) (q1 : Option Addr) (n1 c1 : Nat) (q2 : Option Addr) (n2 c2 : Nat) : (cgC k (.slice q1 n1 c1) (.slice q2 n2 c2)).all (·.oneCell') = true := by simp [Value.oneCell']
section
variable {ops : Array Oper} {rest : List Oper} {o : Oper} {a : Act} {w : World} {Q : Exit → Act → World → Prop}
/-- A change into its box. -/
theorem st_cg (hgd : o.guard = none) {x y : Operand} (ho : o.op = .store 26 x y) {g : Nat} {k0 k1 : Int} {o0 n0 : Value} {q1 : Option Addr} {n1 c1 : Nat} {q2 : Option Addr} {n2 c2 : Nat} {t : TypeId} (hB : Blk w g (cgC k0 o0 n0) t) (hx : a.eval x = .pointer (some ⟨g, 0, none⟩)) (hy : a.eval y = cgV k1 (.slice q1 n1 c1) (.slice q2 n2 c2))
    (h : ∀ W', Blk W' g (cgC k1 (.slice q1 n1 c1) (.slice q2 n2 c2)) t → Chg g w W' → wpList Try.prog ops Q rest (a.put o.dst undef) W') : wpList Try.prog ops Q (o :: rest) a w :=
  st_blk hgd ho hB hx hy (info_cg k1 _ _) rfl (cg_one _ _ _ _ _ _ _) h
end
section
variable {ops : Array Oper} {rest : List Oper} {o : Oper} {a : Act} {w : World} {Q : Exit → Act → World → Prop}
/-- append of numbers, up to what a machine reaches. -/
theorem app_iL (A : World) (hw : Region.wanted o (yielded ops a.tmps) = true) {s x : Operand} (ho : o.op = .call { callee := .builtin .append, args := #[s, x], argTypes := #[24, 24] })
    {v vx : Value} {n k : Nat} {l m : List Int} (hs : a.eval s = v) (hown : w.ownsRow A.heap.size 3 1 v n (ints l)) (hx : a.eval x = vx) (hsl : Is w vx m) (hm : m.length = k) (h63 : (n + k) * 8 ≤ 140737488355328) (hA : Below A.heap.size A w)
    (h : ∀ v' w', w'.ownsRow A.heap.size 3 1 v' (n + k) (ints (l ++ m)) → (v' = .slice none 0 0 ↔ v = .slice none 0 0 ∧ k = 0) → Below A.heap.size A w' → w.grownBy w' v.ownBlock → wpList Try.prog ops Q rest (a.put o.dst v') w') : wpList Try.prog ops Q (o :: rest) a w := by
  unfold wpList
  rw [if_pos hw]
  left
  exact appiW A o.dst rfl ho hs hown hx hsl hm h63 hA h
end
set_option maxHeartbeats 1000000 in
theorem gints_any (v u : Value) (l m : List Int) (w : World) (hv : Is w v l) (hu : Is w u m) (hl : l.length ≤ 100000) (hm : m.length ≤ 100000) :
    Calls Try.prog 18 #[v, u] w fun e w' => e = .returned (.bool (decide (l = m))) ∧ Below w.heap.size w w' := by
  obtain ⟨q, cap, g, off, rfl, h1, h2, h3, h4, h5⟩ := hv
  obtain ⟨q', cap', g', off', rfl, k1, k2, k3, k4, k5⟩ := hu
  exact ints_any _ _ _ _ _ l _ _ _ _ _ m w rfl rfl hl hm h3 k3 h5 k5 h4 k4
theorem gnum_any (n : Nat) (w : World) : Calls Try.prog 25 #[errV n] w fun e w' => e = .returned (.int .i64 ((n : Nat) : Int)) ∧ w' = w := by
  by_cases h : n = 0
  · subst h
    exact num_nil w
  · rw [errV_no h]
    exact num_err n (by omega) w
end Go.Proofs.Ytodmhohccclhmaa
