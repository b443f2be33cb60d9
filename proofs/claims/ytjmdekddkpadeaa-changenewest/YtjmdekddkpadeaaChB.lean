/-
  change.Do, Read, Swap; the document's Do; copies with a mark: estuarylaw10.marked, stands.
-/
import Derived.Test.YtjmdekddkpadeaaChA
namespace Go.Proofs.Ytjmdekddkpadeaa
open Go.RowKit
set_option linter.unusedVariables false

theorem gio_nil (W : World) (base : Nat) : Io W base (.slice none 0 0) [] := own_nil W base
/-- What Do answers: a value and an error. -/
def DoE (W : World) (base : Nat) (l : List Int) (x : Value) (e : Ending) : Prop := ∃ q n c, e = .returned (.tuple #[.slice q n c, x]) ∧ Io W base (.slice q n c) l ∧ l.length = n
theorem doe_of {W : World} {base : Nat} {v : Value} {l m : List Int} {n k : Nat} (hv : Io W base v l) (hl : m = l) (hn : n = k) : DoE W base m (errV n) (.returned (.tuple #[v, errV k])) := by
  subst hl hn
  obtain ⟨q, c, e⟩ := hv.is.form
  subst e
  exact ⟨q, _, c, rfl, hv, rfl⟩
set_option maxHeartbeats 1000000 in
theorem gdo_any (c : Cg) (vo vn v : Value) (l : List Int) (w : World) (ho : Is w vo c.o) (hn : Is w vn c.n) (hv : Is w v l) (hl : l.length ≤ 100000) :
    Calls Try.prog 10 #[cgV c.k vo vn, v] w fun e w' => DoE w' w.heap.size (doL c l) (errV (doN c l)) e ∧ Below w.heap.size w w' := by
  obtain ⟨q1, c1, e⟩ := ho.form
  subst e
  obtain ⟨q2, c2, e⟩ := hn.form
  subst e
  obtain ⟨n1, hn1⟩ : ∃ n, c.o.length = n := ⟨_, rfl⟩
  obtain ⟨n2, hn2⟩ : ∃ n, c.n.length = n := ⟨_, rfl⟩
  rw [hn1] at ho ⊢
  rw [hn2] at hn ⊢
  have HG : gdC c.k n1 n2 = gdG c := by unfold gdG; rw [hn1, hn2]
  obtain ⟨k, hk⟩ : ∃ k, c.k = k := ⟨_, rfl⟩
  rw [hk] at HG ⊢
  go_enter Try.func10, Try.ntmps10
  go_upto_region 1 with fail
  obtain ⟨A, hAe, hB, hw⟩ := blk1 w (cgC k (.slice q1 n1 c1) (.slice q2 n2 c2)) 24
  rw [hAe]
  obtain ⟨d0, d1, d2⟩ := cellsG hB
  have hbv := Below.refl A.heap.size A
  clear hAe hB
  go_wp2_with fail
  refine (gcheck_any k q1 n1 c1 q2 n2 c2 _).mono ?_
  rintro e W1 ⟨rfl, b1⟩
  have hbv := ab_trans hbv b1
  have hwv := ab_trans hw hbv
  have zw := hwv.size
  cases h1 : gdG c
  · have HN : Hid (doN c l = 2 ∧ doL c l = l) := do_form h1
    rw [show ckN k n1 n2 = 2 from ckN_no (by rw [HG, h1]), errV_no (by decide)]
    have E1 := gne20
    go_wp2_with fail
    refine (gclone_any v l _ (hv.keep hwv) hl).mono ?_
    rintro e W2 ⟨v', rfl, hO, b2⟩
    go_wp2_with fail
    go_ret2
    exact ⟨doe_of (hO.less zw) HN.out.2 HN.out.1, ab_trans hwv b2⟩
  · rw [show ckN k n1 n2 = 0 from ckN_ok (by rw [HG, h1]), errV_ok rfl]
    have E1 := neq00
    rcases gd_kind h1 with e1 | e1
    · have HN : Hid (doN c l = 0 ∧ doL c l = l) := do_read h1 e1
      rw [hk] at e1
      subst e1
      go_wp2_with fail
      refine (gclone_any v l _ (hv.keep hwv) hl).mono ?_
      rintro e W2 ⟨v', rfl, hO, b2⟩
      go_wp2_with fail
      go_ret2
      exact ⟨doe_of (hO.less zw) HN.out.2 HN.out.1, ab_trans hwv b2⟩
    · have e2 := e1
      rw [hk] at e2
      subst e2
      have y1 : ((2 : Int) == 1) = false := by decide
      go_wp2_with fail
      refine (gsame_any v _ l c.o _ (hv.keep hwv) (ho.keep hwv)).mono ?_
      rintro e W2 ⟨rfl, b2⟩
      have hbv := ab_trans hbv b2
      have hwv := ab_trans hw hbv
      have zw := hwv.size
      by_cases h2 : l = c.o
      · have HN : Hid (doN c l = 0 ∧ doL c l = c.n) := do_swap h1 e1 h2
        rw [decide_eq_true h2]
        have hz := (gd_small h1).2
        clear h2
        go_wp2_with fail
        refine (gclone_any _ c.n _ (hn.keep hwv) (by omega)).mono ?_
        rintro e W3 ⟨v', rfl, hO, b3⟩
        go_wp2_with fail
        go_ret2
        exact ⟨doe_of (hO.less zw) HN.out.2 HN.out.1, ab_trans hwv b3⟩
      · have HN : Hid (doN c l = 11 ∧ doL c l = l) := do_stale h1 e1 h2
        rw [decide_eq_false h2]
        clear h2
        go_wp2_with fail
        refine (gclone_any v l _ (hv.keep hwv) hl).mono ?_
        rintro e W3 ⟨v', rfl, hO, b3⟩
        go_wp2_with fail
        go_ret2
        exact ⟨doe_of (hO.less zw) HN.out.2 HN.out.1, ab_trans hwv b3⟩
/-- What the document's Do answers. -/
def DoI (W : World) (l : List Int) (x : Nat) (e : Ending) : Prop := ∃ q n c, e = .returned (.tuple #[.slice q n c, .int .i64 (x : Int)]) ∧ Is W (.slice q n c) l ∧ l.length = n
theorem doi_of {W : World} {v : Value} {l m : List Int} {n k : Nat} {K : Int} (hv : Is W v l) (hl : m = l) (hn : n = k) (hK : K = (k : Int)) : DoI W m n (.returned (.tuple #[v, .int .i64 K])) := by
  subst hl hn hK
  obtain ⟨q, c, e⟩ := hv.form
  subst e
  exact ⟨q, _, c, rfl, hv, rfl⟩
set_option maxHeartbeats 1000000 in
theorem gdoR_any (c : Cg) (vo vn v : Value) (l : List Int) (w : World) (ho : Is w vo c.o) (hn : Is w vn c.n) (hv : Is w v l) :
    Calls Try.prog 11 #[cgV c.k vo vn, v] w fun e w' => DoI w' (doL c l) (doN c l) e ∧ Below w.heap.size w w' := by
  obtain ⟨q1, c1, e⟩ := ho.form
  subst e
  obtain ⟨q2, c2, e⟩ := hn.form
  subst e
  obtain ⟨n1, hn1⟩ : ∃ n, c.o.length = n := ⟨_, rfl⟩
  obtain ⟨n2, hn2⟩ : ∃ n, c.n.length = n := ⟨_, rfl⟩
  rw [hn1] at ho ⊢
  rw [hn2] at hn ⊢
  have HG : gdC c.k n1 n2 = gdG c := by unfold gdG; rw [hn1, hn2]
  obtain ⟨k, hk⟩ : ∃ k, c.k = k := ⟨_, rfl⟩
  rw [hk] at HG ⊢
  go_enter Try.func11, Try.ntmps11
  go_upto_region 1 with fail
  obtain ⟨A, hAe, hB, hw⟩ := blk1 w (cgC k (.slice q1 n1 c1) (.slice q2 n2 c2)) 24
  rw [hAe]
  obtain ⟨d0, d1, d2⟩ := cellsG hB
  have hbv := Below.refl A.heap.size A
  clear hAe hB
  go_wp2_with fail
  refine (ggood_any k q1 n1 c1 q2 n2 c2 _).mono ?_
  rintro e W1 ⟨rfl, b1⟩
  rw [HG]
  have hbv := ab_trans hbv b1
  have hwv := ab_trans hw hbv
  cases h1 : gdG c
  · have HN : Hid (doN c l = 2 ∧ doL c l = l) := do_form h1
    go_wp2_with fail
    go_ret2
    exact ⟨doi_of (hv.keep hwv) HN.out.2 HN.out.1 rfl, hwv⟩
  · rcases gd_kind h1 with e1 | e1
    · have HN : Hid (doN c l = 0 ∧ doL c l = l) := do_read h1 e1
      rw [hk] at e1
      subst e1
      go_wp2_with fail
      go_ret2
      exact ⟨doi_of (hv.keep hwv) HN.out.2 HN.out.1 rfl, hwv⟩
    · have e2 := e1
      rw [hk] at e2
      subst e2
      go_wp2_with fail
      refine (gsameR_any _ v c.o l _ (ho.keep hwv) (hv.keep hwv)).mono ?_
      rintro e W2 ⟨rfl, b2⟩
      have hbv := ab_trans hbv b2
      have hwv := ab_trans hw hbv
      by_cases h2 : l = c.o
      · have HN : Hid (doN c l = 0 ∧ doL c l = c.n) := do_swap h1 e1 h2
        rw [decide_eq_true h2.symm]
        clear h2
        go_wp2_with fail
        go_ret2
        exact ⟨doi_of (hn.keep hwv) HN.out.2 HN.out.1 rfl, hwv⟩
      · have HN : Hid (doN c l = 11 ∧ doL c l = l) := do_stale h1 e1 h2
        rw [decide_eq_false (fun h => h2 h.symm)]
        clear h2
        go_wp2_with fail
        go_ret2
        exact ⟨doi_of (hv.keep hwv) HN.out.2 HN.out.1 rfl, hwv⟩
theorem cg_one (k : Int) (q1 : Option Addr) (n1 c1 : Nat) (q2 : Option Addr) (n2 c2 : Nat) : (cgC k (.slice q1 n1 c1) (.slice q2 n2 c2)).all (·.oneCell') = true := by simp [Value.oneCell']
section
variable {ops : Array Oper} {rest : List Oper} {o : Oper} {a : Act} {w : World} {Q : Exit → Act → World → Prop}
/-- A change into its box. -/
theorem st_cg (hgd : o.guard = none) {x y : Operand} (ho : o.op = .store 24 x y) {g : Nat} {k0 k1 : Int} {o0 n0 : Value} {q1 : Option Addr} {n1 c1 : Nat} {q2 : Option Addr} {n2 c2 : Nat} {t : TypeId} (hB : Blk w g (cgC k0 o0 n0) t) (hx : a.eval x = .pointer (some ⟨g, 0, none⟩)) (hy : a.eval y = cgV k1 (.slice q1 n1 c1) (.slice q2 n2 c2))
    (h : ∀ W', Blk W' g (cgC k1 (.slice q1 n1 c1) (.slice q2 n2 c2)) t → Chg g w W' → wpList Try.prog ops Q rest (a.put o.dst undef) W') : wpList Try.prog ops Q (o :: rest) a w :=
  st_blk hgd ho hB hx hy (info_cg k1 _ _) rfl (cg_one _ _ _ _ _ _ _) h
end
set_option maxHeartbeats 1000000 in
theorem gread_any (w : World) : Calls Try.prog 21 #[] w fun e w' => e = .returned (cgV 1 (.slice none 0 0) (.slice none 0 0)) ∧ Below w.heap.size w w' := by
  go_enter Try.func21, Try.ntmps21
  go_upto_region 1 with fail
  obtain ⟨A, hAe, hB, hw⟩ := blk1 w (cgC 0 (.slice none 0 0) (.slice none 0 0)) 24
  rw [show w.alloc (.cells #[.int .i64 0, .slice none 0 0, .slice none 0 0] 24) = A from hAe]
  clear hAe
  go_wp2_with (refine st_cg rfl rfl hB rfl rfl ?_; intro W5 hB5 C5)
  exact bodyPost_ret (results_cell_row rfl _ _ _ 24 _ (0, 0) _ rfl hB5 Try.underlying24 rfl (info_cg _ _ _)) rfl ⟨rfl, ab_chg hw C5 (Nat.le_refl _)⟩
set_option maxHeartbeats 1000000 in
theorem gswap_any (v1 v2 : Value) (l m : List Int) (w : World) (h1 : Is w v1 l) (h2 : Is w v2 m) (z1 : l.length ≤ 100000) (z2 : m.length ≤ 100000) :
    Calls Try.prog 18 #[v1, v2] w fun e w' => ∃ q1 c1 q2 c2, e = .returned (cgV 2 (.slice q1 l.length c1) (.slice q2 m.length c2)) ∧ Io w' w.heap.size (.slice q1 l.length c1) l ∧ Io w' w.heap.size (.slice q2 m.length c2) m ∧ Below w.heap.size w w' := by
  obtain ⟨n, hn⟩ : ∃ n, l.length = n := ⟨_, rfl⟩
  obtain ⟨n2, hn2⟩ : ∃ n, m.length = n := ⟨_, rfl⟩
  rw [hn, hn2]
  go_enter Try.func18, Try.ntmps18
  go_upto_region 1 with fail
  obtain ⟨A, hAe, hB, hw⟩ := blk1 w (cgC 0 (.slice none 0 0) (.slice none 0 0)) 24
  rw [show w.alloc (.cells #[.int .i64 0, .slice none 0 0, .slice none 0 0] 24) = A from hAe]
  clear hAe
  go_wp2_with fail
  refine (gclone_any v1 l _ (h1.keep hw) z1).mono ?_
  rintro e W1 ⟨u1, rfl, hO1, b1⟩
  obtain ⟨q1, c1, e1⟩ := hO1.is.form
  rw [hn] at e1
  subst e1
  go_wp2_with fail
  refine (gclone_any v2 m _ (h2.keep (ab_trans hw b1)) z2).mono ?_
  rintro e W2 ⟨u2, rfl, hO2, b2⟩
  obtain ⟨q2, c2, e2⟩ := hO2.is.form
  rw [hn2] at e2
  subst e2
  have hbv := ab_trans b1 b2
  have hB2 := hB.keep hbv
  have P1 := hO1.keep b2
  have hA1 : w.heap.size < A.heap.size := hB.lt
  have hA2 := b1.size
  clear hO1
  go_wp2_with (refine st_cg rfl rfl hB2 rfl rfl ?_; intro W5 hB5 C5)
  exact bodyPost_ret (results_cell_row rfl _ _ _ 24 _ (0, 0) _ rfl hB5 Try.underlying24 rfl (info_cg _ _ _)) rfl ⟨_, _, _, _, rfl, (io_chg P1 C5 (by omega)).less (by omega), (io_chg hO2 C5 (by omega)).less (by omega), ab_chg (ab_trans hw hbv) C5 (Nat.le_refl _)⟩
section
variable {ops : Array Oper} {rest : List Oper} {o : Oper} {a : Act} {w : World} {Q : Exit → Act → World → Prop}
/-- append of numbers, up to what a machine reaches. -/
theorem app_iL (A : World) (hw : Region.wanted o (yielded ops a.tmps) = true) {s x : Operand} (ho : o.op = .call { callee := .builtin .append, args := #[s, x], argTypes := #[22, 22] })
    {v vx : Value} {n k : Nat} {l m : List Int} (hs : a.eval s = v) (hown : w.ownsRow A.heap.size 3 1 v n (ints l)) (hx : a.eval x = vx) (hsl : Is w vx m) (hm : m.length = k) (h63 : (n + k) * 8 ≤ 140737488355328) (hA : Below A.heap.size A w)
    (h : ∀ v' w', w'.ownsRow A.heap.size 3 1 v' (n + k) (ints (l ++ m)) → (v' = .slice none 0 0 ↔ v = .slice none 0 0 ∧ k = 0) → Below A.heap.size A w' → w.grownBy w' v.ownBlock → wpList Try.prog ops Q rest (a.put o.dst v') w') : wpList Try.prog ops Q (o :: rest) a w := by
  unfold wpList
  rw [if_pos hw]
  left
  exact appiW A o.dst rfl ho hs hown hx hsl hm h63 hA h
end
set_option maxHeartbeats 1000000 in
theorem marked_any (v : Value) (l : List Int) (w : World) (hv : Is w v l) (hl : l.length ≤ 17592186044000) :
    Calls Try.prog 9 #[v] w fun e w' => ∃ u, e = .returned u ∧ Cn w' w.heap.size u l ∧ Below w.heap.size w w' := by
  obtain ⟨q, c, e⟩ := hv.form
  subst e
  obtain ⟨n, hn⟩ : ∃ n, l.length = n := ⟨_, rfl⟩
  rw [hn] at hv hl ⊢
  have x1 : IntKind.i64.wrap ((n : Int) + 1) = (n : Int) + 1 := by simp [IntKind.wrap, IntKind.signed, IntKind.bits] <;> omega
  go_enter Try.func9, Try.ntmps9
  go_upto_region 1 with fail
  go_wp2_with (first
    | (refine mk_own (c := n + 1) w rfl rfl Try.underlying22 infoInt rfl rfl (by omega) (by omega) (by unfold maxLen; omega) (Below.refl _ _) ?_; intro v1 W1 own1 nn1 b1 b1'; clear b1'; go_frame)
    | (have mk := b1; clear mk; refine app_iL w rfl rfl rfl (show W1.ownsRow w.heap.size 3 1 v1 0 (ints []) from own1) rfl (hv.keep b1) hn (by omega) b1 ?_; intro v2 W2 own2 nn2 b2 gr2; go_frame)
    | (have mk := b2; clear mk; refine bs_own rfl rfl [-77] (by simp only [List.map_toArray, List.map_cons, List.map_nil]; rfl) (isl1 _ _) rfl (by decide) ?_; intro W3 own3 b3 z3; clear z3; go_frame)
    | (have mk := b3; clear mk; refine app_iL w rfl rfl rfl (own_keep own2 b3) rfl (own_is own3) (k := 1) rfl (by omega) (ab_trans b2 b3) ?_; intro v4 W4 own4 nn4 b4 gr4; obtain ⟨g4, cap4, e4, hb4, hl4, hc4, -, -⟩ := own_cells own4 (fun e => absurd (nn4.1 e).2 (by simp)); subst e4; go_frame)
    | (have mk := b4; clear mk; refine valS rfl _ (sli_h_run rfl rfl rfl rfl (by omega)) ?_; rw [sliced_0]; go_frame))
  go_ret
  exact ⟨_, rfl, copied_cn own4 hn, b4⟩
set_option maxHeartbeats 1000000 in
theorem gints_any (v u : Value) (l m : List Int) (w : World) (hv : Is w v l) (hu : Is w u m) (hl : l.length ≤ 100000) (hm : m.length ≤ 100000) :
    Calls Try.prog 12 #[v, u] w fun e w' => e = .returned (.bool (decide (l = m))) ∧ Below w.heap.size w w' := by
  obtain ⟨q, cap, g, off, rfl, h1, h2, h3, h4, h5⟩ := hv
  obtain ⟨q', cap', g', off', rfl, k1, k2, k3, k4, k5⟩ := hu
  exact ints_any _ _ _ _ _ l _ _ _ _ _ m w rfl rfl hl hm h3 k3 h5 k5 h4 k4
theorem gnum_any (n : Nat) (w : World) : Calls Try.prog 13 #[errV n] w fun e w' => e = .returned (.int .i64 ((n : Nat) : Int)) ∧ w' = w := by
  by_cases h : n = 0
  · subst h
    exact num_nil w
  · rw [errV_no h]
    exact num_err n (by omega) w
set_option maxHeartbeats 1000000 in
theorem stands_any (v u : Value) (l : List Int) (base : Nat) (w : World) (hv : Cn w base v l) (hu : Is w u l) (hl : l.length ≤ 100000) :
    Calls Try.prog 16 #[v, u] w fun e w' => e = .returned (.bool true) ∧ Below w.heap.size w w' := by
  obtain ⟨hi, g, cap, e, hcap, hcell⟩ := hv.open
  subst e
  have hg : g < w.heap.size := by
    obtain ⟨g', cap', e, h1⟩ := hv
    cases e
    exact (World.ownsRow.lt h1 g rfl).2
  obtain ⟨n, hn⟩ : ∃ n, l.length = n := ⟨_, rfl⟩
  rw [hn] at hi hcap hcell hl ⊢
  have x1 : IntKind.i64.wrap ((n : Int) + 1) = (n : Int) + 1 := by simp [IntKind.wrap, IntKind.signed, IntKind.bits] <;> omega
  go_enter Try.func16, Try.ntmps16
  go_upto_region 1 with fail
  go_wp2_with fail
  refine (gints_any _ u l l _ hi hu (by omega) (by omega)).mono ?_
  rintro e W1 ⟨rfl, b1⟩
  rw [decide_eq_true (rfl : l = l)]
  have hc1 := keep_cell b1 hcell hg
  go_wp2_with (refine valS rfl _ (sli_h_run (j := n + 1) rfl rfl rfl (by first | rfl | omega | (push_cast; omega)) (by omega)) ?_; rw [sliced_0]; go_frame)
  go_ret
  exact ⟨rfl, b1⟩
end Go.Proofs.Ytjmdekddkpadeaa
