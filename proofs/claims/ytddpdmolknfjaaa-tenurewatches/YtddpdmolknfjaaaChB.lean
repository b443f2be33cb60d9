/-
  change.Do, Read, Swap; the document's Do; copies with a mark: estuarylaw10.marked, stands.
-/
import Derived.Test.YtddpdmolknfjaaaChA
namespace Go.Proofs.Ytddpdmolknfjaaa
open Go.RowKit
set_option linter.unusedVariables false

theorem gio_nil (W : World) (base : Nat) : Io W base (.slice none 0 0) [] := own_nil W base
/-- What Do answers: a value and an error. -/
def DoE (W : World) (base : Nat) (l : List Int) (x : Value) (e : Ending) : Prop := ∃ q n c, e = .returned (.tuple #[.slice q n c, x]) ∧ Io W base (.slice q n c) l ∧ l.length = n
theorem doe_of {W : World} {base : Nat} {v : Value} {l m : List Int} {n k : Nat} (hv : Io W base v l) (hl : m = l) (hn : n = k) : DoE W base m (errV n) (.returned (.tuple #[v, errV k])) := by
  subst hl hn
  obtain ⟨q, c, e⟩ := hv.is.form
  subst e
  exact ⟨q, _, c, rfl, hv, rfl⟩
set_option maxHeartbeats 1000000 in
theorem gdo_any (c : Cg) (vo vn v : Value) (l : List Int) (w : World) (ho : Is w vo c.o) (hn : Is w vn c.n) (hv : Is w v l) (hl : l.length ≤ 100000) :
    Calls Try.prog 18 #[cgV c.k vo vn, v] w fun e w' => DoE w' w.heap.size (doL c l) (errV (doN c l)) e ∧ Below w.heap.size w w' := by
  obtain ⟨q1, c1, e⟩ := ho.form
  subst e
  obtain ⟨q2, c2, e⟩ := hn.form
  subst e
  obtain ⟨n1, hn1⟩ : ∃ n, c.o.length = n := ⟨_, rfl⟩
  obtain ⟨n2, hn2⟩ : ∃ n, c.n.length = n := ⟨_, rfl⟩
  rw [hn1] at ho ⊢
  rw [hn2] at hn ⊢
  have HG : gdC c.k n1 n2 = gdG c := by unfold gdG; rw [hn1, hn2]
  obtain ⟨k, hk⟩ : ∃ k, c.k = k := ⟨_, rfl⟩
  rw [hk] at HG ⊢
  go_enter Try.func18, Try.ntmps18
  go_upto_region 1 with fail
  obtain ⟨A, hAe, hB, hw⟩ := blk1 w (cgC k (.slice q1 n1 c1) (.slice q2 n2 c2)) 51
  rw [hAe]
  obtain ⟨d0, d1, d2⟩ := cellsG hB
  have hbv := Below.refl A.heap.size A
  clear hAe hB
  go_wp2_with fail
  refine (gcheck_any k q1 n1 c1 q2 n2 c2 _).mono ?_
  rintro e W1 ⟨rfl, b1⟩
  have hbv := ab_trans hbv b1
  have hwv := ab_trans hw hbv
  have zw := hwv.size
  cases h1 : gdG c
  · have HN : Hid (doN c l = 2 ∧ doL c l = l) := do_form h1
    rw [show ckN k n1 n2 = 2 from ckN_no (by rw [HG, h1]), errV_no (by decide)]
    have E1 := gne20
    go_wp2_with fail
    refine (gclone_any v l _ (hv.keep hwv) hl).mono ?_
    rintro e W2 ⟨v', rfl, hO, b2⟩
    go_wp2_with fail
    go_ret2
    exact ⟨doe_of (hO.less zw) HN.out.2 HN.out.1, ab_trans hwv b2⟩
  · rw [show ckN k n1 n2 = 0 from ckN_ok (by rw [HG, h1]), errV_ok rfl]
    have E1 := neq00
    rcases gd_kind h1 with e1 | e1
    · have HN : Hid (doN c l = 0 ∧ doL c l = l) := do_read h1 e1
      rw [hk] at e1
      subst e1
      go_wp2_with fail
      refine (gclone_any v l _ (hv.keep hwv) hl).mono ?_
      rintro e W2 ⟨v', rfl, hO, b2⟩
      go_wp2_with fail
      go_ret2
      exact ⟨doe_of (hO.less zw) HN.out.2 HN.out.1, ab_trans hwv b2⟩
    · have e2 := e1
      rw [hk] at e2
      subst e2
      have y1 : ((2 : Int) == 1) = false := by decide
      go_wp2_with fail
      refine (gsame_any v _ l c.o _ (hv.keep hwv) (ho.keep hwv)).mono ?_
      rintro e W2 ⟨rfl, b2⟩
      have hbv := ab_trans hbv b2
      have hwv := ab_trans hw hbv
      have zw := hwv.size
      by_cases h2 : l = c.o
      · have HN : Hid (doN c l = 0 ∧ doL c l = c.n) := do_swap h1 e1 h2
        rw [decide_eq_true h2]
        have hz := (gd_small h1).2
        clear h2
        go_wp2_with fail
        refine (gclone_any _ c.n _ (hn.keep hwv) (by omega)).mono ?_
        rintro e W3 ⟨v', rfl, hO, b3⟩
        go_wp2_with fail
        go_ret2
        exact ⟨doe_of (hO.less zw) HN.out.2 HN.out.1, ab_trans hwv b3⟩
      · have HN : Hid (doN c l = 11 ∧ doL c l = l) := do_stale h1 e1 h2
        rw [decide_eq_false h2]
        clear h2
        go_wp2_with fail
        refine (gclone_any v l _ (hv.keep hwv) hl).mono ?_
        rintro e W3 ⟨v', rfl, hO, b3⟩
        go_wp2_with fail
        go_ret2
        exact ⟨doe_of (hO.less zw) HN.out.2 HN.out.1, ab_trans hwv b3⟩
/-- What the document's Do answers. -/
def DoI (W : World) (l : List Int) (x : Nat) (e : Ending) : Prop := ∃ q n c, e = .returned (.tuple #[.slice q n c, .int .i64 (x : Int)]) ∧ Is W (.slice q n c) l ∧ l.length = n
theorem doi_of {W : World} {v : Value} {l m : List Int} {n k : Nat} {K : Int} (hv : Is W v l) (hl : m = l) (hn : n = k) (hK : K = (k : Int)) : DoI W m n (.returned (.tuple #[v, .int .i64 K])) := by
  subst hl hn hK
  obtain ⟨q, c, e⟩ := hv.form
  subst e
  exact ⟨q, _, c, rfl, hv, rfl⟩
theorem cg_one (k : Int) (q1 : Option Addr) (n1 c1 : Nat) (q2 : Option Addr) (n2 c2 : Nat) : (cgC k (.slice q1 n1 c1) (.slice q2 n2 c2)).all (·.oneCell') = true := by simp [Value.oneCell']
section
variable {ops : Array Oper} {rest : List Oper} {o : Oper} {a : Act} {w : World} {Q : Exit → Act → World → Prop}
/-- A change into its box. -/
theorem st_cg (hgd : o.guard = none) {x y : Operand} (ho : o.op = .store 51 x y) {g : Nat} {k0 k1 : Int} {o0 n0 : Value} {q1 : Option Addr} {n1 c1 : Nat} {q2 : Option Addr} {n2 c2 : Nat} {t : TypeId} (hB : Blk w g (cgC k0 o0 n0) t) (hx : a.eval x = .pointer (some ⟨g, 0, none⟩)) (hy : a.eval y = cgV k1 (.slice q1 n1 c1) (.slice q2 n2 c2))
    (h : ∀ W', Blk W' g (cgC k1 (.slice q1 n1 c1) (.slice q2 n2 c2)) t → Chg g w W' → wpList Try.prog ops Q rest (a.put o.dst undef) W') : wpList Try.prog ops Q (o :: rest) a w :=
  st_blk hgd ho hB hx hy (info_cg k1 _ _) rfl (cg_one _ _ _ _ _ _ _) h
end
set_option maxHeartbeats 1000000 in
theorem gread_any (w : World) : Calls Try.prog 34 #[] w fun e w' => e = .returned (cgV 1 (.slice none 0 0) (.slice none 0 0)) ∧ Below w.heap.size w w' := by
  go_enter Try.func34, Try.ntmps34
  go_upto_region 1 with fail
  obtain ⟨A, hAe, hB, hw⟩ := blk1 w (cgC 0 (.slice none 0 0) (.slice none 0 0)) 51
  rw [show w.alloc (.cells #[.int .i64 0, .slice none 0 0, .slice none 0 0] 51) = A from hAe]
  clear hAe
  go_wp2_with (refine st_cg rfl rfl hB rfl rfl ?_; intro W5 hB5 C5)
  exact bodyPost_ret (results_cell_row rfl _ _ _ 51 _ (0, 0) _ rfl hB5 Try.underlying51 rfl (info_cg _ _ _)) rfl ⟨rfl, ab_chg hw C5 (Nat.le_refl _)⟩
set_option maxHeartbeats 1000000 in
theorem gswap_any (v1 v2 : Value) (l m : List Int) (w : World) (h1 : Is w v1 l) (h2 : Is w v2 m) (z1 : l.length ≤ 100000) (z2 : m.length ≤ 100000) :
    Calls Try.prog 35 #[v1, v2] w fun e w' => ∃ q1 c1 q2 c2, e = .returned (cgV 2 (.slice q1 l.length c1) (.slice q2 m.length c2)) ∧ Io w' w.heap.size (.slice q1 l.length c1) l ∧ Io w' w.heap.size (.slice q2 m.length c2) m ∧ Below w.heap.size w w' := by
  obtain ⟨n, hn⟩ : ∃ n, l.length = n := ⟨_, rfl⟩
  obtain ⟨n2, hn2⟩ : ∃ n, m.length = n := ⟨_, rfl⟩
  rw [hn, hn2]
  go_enter Try.func35, Try.ntmps35
  go_upto_region 1 with fail
  obtain ⟨A, hAe, hB, hw⟩ := blk1 w (cgC 0 (.slice none 0 0) (.slice none 0 0)) 51
  rw [show w.alloc (.cells #[.int .i64 0, .slice none 0 0, .slice none 0 0] 51) = A from hAe]
  clear hAe
  go_wp2_with fail
  refine (gclone_any v1 l _ (h1.keep hw) z1).mono ?_
  rintro e W1 ⟨u1, rfl, hO1, b1⟩
  obtain ⟨q1, c1, e1⟩ := hO1.is.form
  rw [hn] at e1
  subst e1
  go_wp2_with fail
  refine (gclone_any v2 m _ (h2.keep (ab_trans hw b1)) z2).mono ?_
  rintro e W2 ⟨u2, rfl, hO2, b2⟩
  obtain ⟨q2, c2, e2⟩ := hO2.is.form
  rw [hn2] at e2
  subst e2
  have hbv := ab_trans b1 b2
  have hB2 := hB.keep hbv
  have P1 := hO1.keep b2
  have hA1 : w.heap.size < A.heap.size := hB.lt
  have hA2 := b1.size
  clear hO1
  go_wp2_with (refine st_cg rfl rfl hB2 rfl rfl ?_; intro W5 hB5 C5)
  exact bodyPost_ret (results_cell_row rfl _ _ _ 51 _ (0, 0) _ rfl hB5 Try.underlying51 rfl (info_cg _ _ _)) rfl ⟨_, _, _, _, rfl, (io_chg P1 C5 (by omega)).less (by omega), (io_chg hO2 C5 (by omega)).less (by omega), ab_chg (ab_trans hw hbv) C5 (Nat.le_refl _)⟩
section
variable {ops : Array Oper} {rest : List Oper} {o : Oper} {a : Act} {w : World} {Q : Exit → Act → World → Prop}
/-- append of numbers, up to what a machine reaches. -/
theorem app_iL (A : World) (hw : Region.wanted o (yielded ops a.tmps) = true) {s x : Operand} (ho : o.op = .call { callee := .builtin .append, args := #[s, x], argTypes := #[27, 27] })
    {v vx : Value} {n k : Nat} {l m : List Int} (hs : a.eval s = v) (hown : w.ownsRow A.heap.size 3 1 v n (ints l)) (hx : a.eval x = vx) (hsl : Is w vx m) (hm : m.length = k) (h63 : (n + k) * 8 ≤ 140737488355328) (hA : Below A.heap.size A w)
    (h : ∀ v' w', w'.ownsRow A.heap.size 3 1 v' (n + k) (ints (l ++ m)) → (v' = .slice none 0 0 ↔ v = .slice none 0 0 ∧ k = 0) → Below A.heap.size A w' → w.grownBy w' v.ownBlock → wpList Try.prog ops Q rest (a.put o.dst v') w') : wpList Try.prog ops Q (o :: rest) a w := by
  unfold wpList
  rw [if_pos hw]
  left
  exact appiW A o.dst rfl ho hs hown hx hsl hm h63 hA h
end
set_option maxHeartbeats 1000000 in
theorem gints_any (v u : Value) (l m : List Int) (w : World) (hv : Is w v l) (hu : Is w u m) (hl : l.length ≤ 100000) (hm : m.length ≤ 100000) :
    Calls Try.prog 14 #[v, u] w fun e w' => e = .returned (.bool (decide (l = m))) ∧ Below w.heap.size w w' := by
  obtain ⟨q, cap, g, off, rfl, h1, h2, h3, h4, h5⟩ := hv
  obtain ⟨q', cap', g', off', rfl, k1, k2, k3, k4, k5⟩ := hu
  exact ints_any _ _ _ _ _ l _ _ _ _ _ m w rfl rfl hl hm h3 k3 h5 k5 h4 k4
theorem gnum_any (n : Nat) (w : World) : Calls Try.prog 25 #[errV n] w fun e w' => e = .returned (.int .i64 ((n : Nat) : Int)) ∧ w' = w := by
  by_cases h : n = 0
  · subst h
    exact num_nil w
  · rw [errV_no h]
    exact num_err n (by omega) w
end Go.Proofs.Ytddpdmolknfjaaa
