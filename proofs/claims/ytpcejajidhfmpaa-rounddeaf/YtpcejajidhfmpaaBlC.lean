/-
  ballot.Prepare and ballot.Accept.
-/
import Derived.Test.YtpcejajidhfmpaaBlB
import Derived.Test.YtpcejajidhfmpaaMvs
namespace Go.Proofs.Ytpcejajidhfmpaa
open Go.RowKit
set_option linter.unusedVariables false
set_option maxRecDepth 100000

theorem gd_le {r : Rg} (h : gdR r = true) : r.l.length ≤ 32 := by
  refine Classical.byContradiction fun hn => ?_
  unfold gdR at h
  rw [gd_0 hn] at h
  cases h
theorem Io.nil (W : World) (base : Nat) : Io W base (.slice none 0 0) [] := own_nil W base
/-- What a call that answers a register and an error answers. -/
def RgE (W : World) (base : Nat) (r : Rg) (x : Value) (e : Ending) : Prop := ∃ q n c, e = .returned (.tuple #[rV r.p r.a (.slice q n c), x]) ∧ Io W base (.slice q n c) r.l ∧ r.l.length = n
theorem rge_zero (W : World) (base : Nat) (r : Rg) (x y : Value) (hr : r = zR) (hx : x = y) : RgE W base r x (.returned (.tuple #[rV zB zB (.slice none 0 0), y])) := by
  subst hr hx
  exact ⟨none, 0, 0, rfl, Io.nil _ _, rfl⟩
theorem rge_of {W : World} {base : Nat} {p a : Bt} {l : List Int} {v : Value} (r : Rg) (x y : Value) (hr : r = ⟨p, a, l⟩) (hx : x = y) (hv : Io W base v l) : RgE W base r x (.returned (.tuple #[rV p a v, y])) := by
  subst hr hx
  obtain ⟨q, c, e⟩ := hv.is.form
  rw [e] at hv ⊢
  exact ⟨q, _, c, rfl, hv, rfl⟩
theorem rg_one (p a : Bt) (q : Option Addr) (n c : Nat) : (rC p a (.slice q n c)).all (·.oneCell') = true := by simp [Value.oneCell']
theorem bt_one (b : Bt) : (bC b).all (·.oneCell') = true := by simp [Value.oneCell']
section
variable {ops : Array Oper} {rest : List Oper} {o : Oper} {a : Act} {w : World} {Q : Exit → Act → World → Prop}
/-- A register into its box. -/
theorem st_rg (hgd : o.guard = none) {x y : Operand} (ho : o.op = .store 61 x y) {g : Nat} {p0 a0 p1 a1 : Bt} {v0 : Value} {q : Option Addr} {n c : Nat} {t : TypeId} (hB : Blk w g (rC p0 a0 v0) t) (hx : a.eval x = .pointer (some ⟨g, 0, none⟩)) (hy : a.eval y = rV p1 a1 (.slice q n c))
    (h : ∀ W', Blk W' g (rC p1 a1 (.slice q n c)) t → Chg g w W' → wpList Try.prog ops Q rest (a.put o.dst undef) W') : wpList Try.prog ops Q (o :: rest) a w :=
  st_blk hgd ho hB hx hy (info_rg p1 a1 _) rfl (rg_one _ _ _ _ _) h
end
set_option maxHeartbeats 1000000 in
theorem prepare_any (r : Rg) (b : Bt) (v : Value) (w : World) (hv : Is w v r.l) :
    Calls Try.prog 37 #[rV r.p r.a v, bV b] w fun e w' => RgE w' w.heap.size (prR r b) (errV (prN r b)) e ∧ Below w.heap.size w w' := by
  obtain ⟨q, c, e⟩ := hv.form
  subst e
  obtain ⟨n, hn⟩ : ∃ n, r.l.length = n := ⟨_, rfl⟩
  rw [hn] at hv ⊢
  have HG : gdN r.p r.a n = gdR r := by unfold gdR; rw [hn]
  go_enter Try.func37, Try.ntmps37
  go_upto_region 1 with fail
  obtain ⟨A, hAe, hB0, hB1, hB2, hw⟩ := blk3 w (rC r.p r.a (.slice q n c)) (bC b) (rC zB zB (.slice none 0 0)) 61 23 61
  rw [show ((w.alloc (.cells (rC r.p r.a (.slice q n c)) 61)).alloc (.cells (bC b) 23)).alloc (.cells #[.int .i64 0, .int .i64 0, .int .i64 0, .int .i64 0, .int .i64 0, .int .i64 0, .slice none 0 0] 61) = A from hAe]
  obtain ⟨c0, c1, c2, c3, c4, c5, c6⟩ := cells7 hB0
  obtain ⟨d0, d1, d2⟩ := cells3 hB1
  have hbv := Below.refl A.heap.size A
  clear hAe
  go_wp2_with fail
  refine (good9_any r.p r.a q n c _).mono ?_
  rintro e W1 ⟨rfl, b1⟩
  rw [HG]
  have hbv := ab_trans hbv b1
  cases h1 : gdR r
  · have HN : Hid (prN r b = 2) := prN_form (by rw [h1]; rfl)
    have hB := hB2.keep hbv
    have hwv := ab_trans hw hbv
    clear hB2
    go_wp2_with (refine st_rg rfl rfl (p1 := zB) (a1 := zB) hB rfl rfl ?_; intro W5 hB5 C5)
    exact bodyPost_ret (results_c2 rfl _ _ _ 61 _ (0, 0) _ _ rfl rfl hB5 Try.underlying61 rfl (info_rg zB zB _)) rfl ⟨rge_zero _ _ _ _ _ (prR_no (by rw [HN.out]; decide)) (by rw [HN.out]; rfl), ab_chg hwv C5 (by omega)⟩
  · go_wp2_with fail
    refine (asks_any b _).mono ?_
    rintro e W2 ⟨rfl, b2⟩
    have hbv := ab_trans hbv b2
    cases h2 : asB b
    · have HN : Hid (prN r b = 2) := prN_form (by rw [h1, h2]; rfl)
      have hB := hB2.keep hbv
      have hwv := ab_trans hw hbv
      clear hB2
      go_wp2_with (refine st_rg rfl rfl (p1 := zB) (a1 := zB) hB rfl rfl ?_; intro W5 hB5 C5)
      exact bodyPost_ret (results_c2 rfl _ _ _ 61 _ (0, 0) _ _ rfl rfl hB5 Try.underlying61 rfl (info_rg zB zB _)) rfl ⟨rge_zero _ _ _ _ _ (prR_no (by rw [HN.out]; decide)) (by rw [HN.out]; rfl), ab_chg hwv C5 (by omega)⟩
    · go_wp2_with fail
      refine (bless_any r.p b _).mono ?_
      rintro e W3 ⟨rfl, b3⟩
      have hbv := ab_trans hbv b3
      cases h3 : lt3 r.p b
      · have HN : Hid (prN r b = 11) := prN_stale (by rw [h1, h2]; rfl) h3
        have hB := hB2.keep hbv
        have hwv := ab_trans hw hbv
        clear hB2
        go_wp2_with (refine st_rg rfl rfl (p1 := zB) (a1 := zB) hB rfl rfl ?_; intro W5 hB5 C5)
        exact bodyPost_ret (results_c2 rfl _ _ _ 61 _ (0, 0) _ _ rfl rfl hB5 Try.underlying61 rfl (info_rg zB zB _)) rfl ⟨rge_zero _ _ _ _ _ (prR_no (by rw [HN.out]; decide)) (by rw [HN.out]; rfl), ab_chg hwv C5 (by omega)⟩
      · have HN : Hid (prN r b = 0) := prN_ok (by rw [h1, h2]; rfl) h3
        have HL : Hid (r.l.length ≤ 32) := gd_le h1
        have hB := hB2.keep hbv
        have hX := hB0.keep hbv
        have hY := hB1.keep hbv
        have hwv := ab_trans hw hbv
        have hvv := hv.keep hwv
        clear hB2 hB0 hB1 hv c0 c1 c2 c3 c4 c5 c6 d0 d1 d2 b1 b2 b3 hbv
        go_upto_region 5 with fail
        refine wp_region_held_drew (S := fun w' => Below w.heap.size w w' ∧ Blk w' w.heap.size (rC r.p r.a (.slice q n c)) 61 ∧ Blk w' (w.heap.size + 1) (bC b) 23) (by kernel_rfl) ⟨ab_drew hwv, hX.drew, hY.drew⟩ (fun hHeld => ?_)
        refine takeH (i := 0) (some 23) rfl rfl (by kernel_rfl) (by kernel_rfl) (by kernel_rfl) (fun _ _ _ h => h) (by rfl) (fun w hSw => by (try dsimp only at hSw); have y0 := hSw.2.2.at (i := 0) rfl; have y1 := hSw.2.2.at (i := 1) rfl; have y2 := hSw.2.2.at (i := 2) rfl; go_simp; try rfl) hHeld ?_
        go_frame
        refine takeH (i := 1) (some 24) rfl rfl (by kernel_rfl) (by kernel_rfl) (by kernel_rfl) (fun _ _ _ h => h) (by rfl) (fun w hSw => by (try dsimp only at hSw); go_simp; try rfl) hHeld ?_
        go_frame
        refine takeH (i := 2) (some 25) rfl rfl (by kernel_rfl) (by kernel_rfl) (by kernel_rfl) (fun _ _ _ h => h) (by rfl) (fun w hSw => by (try dsimp only at hSw); have y0 := hSw.2.1.at (i := 3) rfl; have y1 := hSw.2.1.at (i := 4) rfl; have y2 := hSw.2.1.at (i := 5) rfl; go_simp; try rfl) hHeld ?_
        go_frame
        refine takeH (i := 3) (some 26) rfl rfl (by kernel_rfl) (by kernel_rfl) (by kernel_rfl) (fun _ _ _ h => h) (by rfl) (fun w hSw => by (try dsimp only at hSw); go_simp; try rfl) hHeld ?_
        go_frame
        refine takeH (i := 4) (some 27) rfl rfl (by kernel_rfl) (by kernel_rfl) (by kernel_rfl) (fun _ _ _ h => h) (by rfl) (fun w hSw => by (try dsimp only at hSw); have y0 := hSw.2.1.at (i := 6) rfl; go_simp; try rfl) hHeld ?_
        go_frame
        refine wpAnyH_ready (rs := [5]) (by kernel_rfl) (by simp) (AllReadyH.cons rfl (fun K hK => ?_) AllReadyH.nil)
        go_simp
        refine (bclone_any _ r.l _ (hvv.keep (ab_drew (Below.refl _ _))) (by have := HL.out; omega)).mono ?_
        rintro e W4 ⟨v4, rfl, hO4, b4⟩
        show K _ _
        have hw4 : Below w.heap.size w W4 := ab_trans hHeld.1 b4
        have hX4 := hHeld.2.1.keep b4
        have hY4 := hHeld.2.2.keep b4
        have hB4 := hB.drew.keep b4
        obtain ⟨q4, c4, e4⟩ := hO4.is.form
        rw [hn] at e4
        subst e4
        refine hK.out _ _ ⟨hw4, hX4, hY4⟩ (fun hHeld => ?_)
        clear hK K
        refine takeH (i := 6) (some 29) rfl rfl (by kernel_rfl) (by kernel_rfl) (by kernel_rfl) (fun _ _ _ h => h) (by rfl) (fun w hSw => by (try dsimp only at hSw); go_simp; try rfl) hHeld ?_
        go_frame
        refine wpAnyH_ready (rs := [7]) (by kernel_rfl) (by simp) (AllReadyH.cons rfl (fun K hK => ?_) AllReadyH.nil)
        rw [if_pos (by rfl)]
        refine stW none rfl rfl hB4 rfl rfl (info_rg b r.a (.slice q4 n c4)) rfl (rg_one _ _ _ _ _) fun W5 hB5 C5 => ?_
        have hw5 := ab_chg hw4 C5 (by omega)
        have hO5 : Io W5 W3.drew.heap.size (.slice q4 n c4) r.l := own_chgT hO4 C5 (fun e => by have h1 := (hO4.lt _ e).1; have h2 := hB.lt; have h3 : W3.drew.heap.size = W3.heap.size := rfl; omega)
        refine hK.out _ _ ⟨hw5, hX4.chg C5 (by omega), hY4.chg C5 (by omega)⟩ (fun hHeld => ?_)
        clear hK K
        refine takeH (i := 8) (some 5) rfl rfl (by kernel_rfl) (by kernel_rfl) (by kernel_rfl) (fun _ _ _ h => h) (by rfl) (fun w hSw => by (try dsimp only at hSw); go_simp; try rfl) hHeld ?_
        go_frame
        refine wpAnyH_done (by kernel_rfl) ?_ _
        go_wp2_with fail
        exact bodyPost_ret (results_c2 rfl _ _ _ 61 _ (0, 0) _ .nilIface rfl rfl hB5 Try.underlying61 rfl (info_rg b r.a _)) rfl ⟨rge_of _ _ _ (prR_ok HN.out) (errV_ok HN.out) (hO5.less (by have := hwv.size; exact this)), hw5⟩
set_option maxHeartbeats 1000000 in
theorem accept_any (r : Rg) (b : Bt) (v : Value) (vx : Value) (m : List Int) (w : World) (hv : Is w v r.l) (hx : Is w vx m) :
    Calls Try.prog 44 #[rV r.p r.a v, bV b, vx] w fun e w' => RgE w' w.heap.size (acR r b m) (errV (acN r b m)) e ∧ Below w.heap.size w w' := by
  obtain ⟨q, c, e⟩ := hv.form
  subst e
  obtain ⟨qx, cx, e⟩ := hx.form
  subst e
  obtain ⟨n, hn⟩ : ∃ n, r.l.length = n := ⟨_, rfl⟩
  obtain ⟨k, hk⟩ : ∃ k, m.length = k := ⟨_, rfl⟩
  rw [hn] at hv ⊢
  rw [hk] at hx ⊢
  have HG : gdN r.p r.a n = gdR r := by unfold gdR; rw [hn]
  go_enter Try.func44, Try.ntmps44
  go_upto_region 1 with fail
  obtain ⟨A, hAe, hB0, hB1, hB2, hw⟩ := blk3 w (rC r.p r.a (.slice q n c)) (bC b) (rC zB zB (.slice none 0 0)) 61 23 61
  rw [show ((w.alloc (.cells (rC r.p r.a (.slice q n c)) 61)).alloc (.cells (bC b) 23)).alloc (.cells #[.int .i64 0, .int .i64 0, .int .i64 0, .int .i64 0, .int .i64 0, .int .i64 0, .slice none 0 0] 61) = A from hAe]
  obtain ⟨c0, c1, c2, c3, c4, c5, c6⟩ := cells7 hB0
  obtain ⟨d0, d1, d2⟩ := cells3 hB1
  have hbv := Below.refl A.heap.size A
  clear hAe
  go_wp2_with fail
  refine (good9_any r.p r.a q n c _).mono ?_
  rintro e W1 ⟨rfl, b1⟩
  rw [HG]
  have hbv := ab_trans hbv b1
  cases h1 : gdR r
  · have HN : Hid (acN r b m = 2) := acN_form (by rw [h1]; rfl)
    have hB := hB2.keep hbv
    have hwv := ab_trans hw hbv
    clear hB2
    go_wp2_with (refine st_rg rfl rfl (p1 := zB) (a1 := zB) hB rfl rfl ?_; intro W5 hB5 C5)
    exact bodyPost_ret (results_c2 rfl _ _ _ 61 _ (0, 0) _ _ rfl rfl hB5 Try.underlying61 rfl (info_rg zB zB _)) rfl ⟨rge_zero _ _ _ _ _ (acR_no (by rw [HN.out]; decide)) (by rw [HN.out]; rfl), ab_chg hwv C5 (by omega)⟩
  · go_wp2_with fail
    refine (asks_any b _).mono ?_
    rintro e W2 ⟨rfl, b2⟩
    have hbv := ab_trans hbv b2
    cases h2 : asB b
    · have HN : Hid (acN r b m = 2) := acN_form (by rw [h1, h2]; rfl)
      have hB := hB2.keep hbv
      have hwv := ab_trans hw hbv
      clear hB2
      go_wp2_with (refine st_rg rfl rfl (p1 := zB) (a1 := zB) hB rfl rfl ?_; intro W5 hB5 C5)
      exact bodyPost_ret (results_c2 rfl _ _ _ 61 _ (0, 0) _ _ rfl rfl hB5 Try.underlying61 rfl (info_rg zB zB _)) rfl ⟨rge_zero _ _ _ _ _ (acR_no (by rw [HN.out]; decide)) (by rw [HN.out]; rfl), ab_chg hwv C5 (by omega)⟩
    · by_cases h5 : k ≤ 32
      · have h6 : ((k : Int) ≤ 32) := by omega
        have H5 : Hid (decide (m.length ≤ 32) = true) := by show _ = _; rw [hk]; exact decide_eq_true h5
        go_wp2_with fail
        refine (bless_any b r.p _).mono ?_
        rintro e W3 ⟨rfl, b3⟩
        have hbv := ab_trans hbv b3
        cases h3 : lt3 b r.p
        · have HN : Hid (acN r b m = 0) := acN_ok (by rw [h1, h2, H5.out]; rfl) h3
          have hB := hB2.keep hbv
          have hY := hB1.keep hbv
          have hwv := ab_trans hw hbv
          have hvv := hx.keep hwv
          clear hB2 hB0 hB1 hv hx c0 c1 c2 c3 c4 c5 c6 d0 d1 d2 b1 b2 b3 hbv
          go_upto_region 5 with fail
          refine wp_region_held_drew (S := fun w' => Below w.heap.size w w' ∧ Blk w' (w.heap.size + 1) (bC b) 23) (by kernel_rfl) ⟨ab_drew hwv, hY.drew⟩ (fun hHeld => ?_)
          refine takeH (i := 0) (some 29) rfl rfl (by kernel_rfl) (by kernel_rfl) (by kernel_rfl) (fun _ _ _ h => h) (by rfl) (fun w hSw => by (try dsimp only at hSw); have y0 := hSw.2.at (i := 0) rfl; have y1 := hSw.2.at (i := 1) rfl; have y2 := hSw.2.at (i := 2) rfl; go_simp; try rfl) hHeld ?_
          go_frame
          refine takeH (i := 1) (some 30) rfl rfl (by kernel_rfl) (by kernel_rfl) (by kernel_rfl) (fun _ _ _ h => h) (by rfl) (fun w hSw => by (try dsimp only at hSw); have y0 := hSw.2.at (i := 0) rfl; have y1 := hSw.2.at (i := 1) rfl; have y2 := hSw.2.at (i := 2) rfl; go_simp; try rfl) hHeld ?_
          go_frame
          refine takeH (i := 2) (some 31) rfl rfl (by kernel_rfl) (by kernel_rfl) (by kernel_rfl) (fun _ _ _ h => h) (by rfl) (fun w hSw => by (try dsimp only at hSw); go_simp; try rfl) hHeld ?_
          go_frame
          refine wpAnyH_ready (rs := [3]) (by kernel_rfl) (by simp) (AllReadyH.cons rfl (fun K hK => ?_) AllReadyH.nil)
          go_simp
          refine (bclone_any _ m _ (hvv.keep (ab_drew (Below.refl _ _))) (by omega)).mono ?_
          rintro e W4 ⟨v4, rfl, hO4, b4⟩
          show K _ _
          have hw4 : Below w.heap.size w W4 := ab_trans hHeld.1 b4
          have hY4 := hHeld.2.keep b4
          have hB4 := hB.drew.keep b4
          obtain ⟨q4, c4, e4⟩ := hO4.is.form
          rw [hk] at e4
          subst e4
          refine hK.out _ _ ⟨hw4, hY4⟩ (fun hHeld => ?_)
          clear hK K
          refine takeH (i := 4) (some 33) rfl rfl (by kernel_rfl) (by kernel_rfl) (by kernel_rfl) (fun _ _ _ h => h) (by rfl) (fun w hSw => by (try dsimp only at hSw); go_simp; try rfl) hHeld ?_
          go_frame
          refine wpAnyH_ready (rs := [5]) (by kernel_rfl) (by simp) (AllReadyH.cons rfl (fun K hK => ?_) AllReadyH.nil)
          rw [if_pos (by rfl)]
          refine stW none rfl rfl hB4 rfl rfl (info_rg b b (.slice q4 k c4)) rfl (rg_one _ _ _ _ _) fun W5 hB5 C5 => ?_
          have hw5 := ab_chg hw4 C5 (by omega)
          have hO5 : Io W5 W3.drew.heap.size (.slice q4 k c4) m := own_chgT hO4 C5 (fun e => by have h1 := (hO4.lt _ e).1; have h2 := hB.lt; have h3 : W3.drew.heap.size = W3.heap.size := rfl; omega)
          refine hK.out _ _ ⟨hw5, hY4.chg C5 (by omega)⟩ (fun hHeld => ?_)
          clear hK K
          refine takeH (i := 6) (some 7) rfl rfl (by kernel_rfl) (by kernel_rfl) (by kernel_rfl) (fun _ _ _ h => h) (by rfl) (fun w hSw => by (try dsimp only at hSw); go_simp; try rfl) hHeld ?_
          go_frame
          refine wpAnyH_done (by kernel_rfl) ?_ _
          go_wp2_with fail
          exact bodyPost_ret (results_c2 rfl _ _ _ 61 _ (0, 0) _ .nilIface rfl rfl hB5 Try.underlying61 rfl (info_rg b b _)) rfl ⟨rge_of _ _ _ (acR_ok HN.out) (errV_ok HN.out) (hO5.less (by have := hwv.size; exact this)), hw5⟩
        · have HN : Hid (acN r b m = 11) := acN_stale (by rw [h1, h2, H5.out]; rfl) h3
          have hB := hB2.keep hbv
          have hwv := ab_trans hw hbv
          clear hB2
          go_wp2_with (refine st_rg rfl rfl (p1 := zB) (a1 := zB) hB rfl rfl ?_; intro W5 hB5 C5)
          exact bodyPost_ret (results_c2 rfl _ _ _ 61 _ (0, 0) _ _ rfl rfl hB5 Try.underlying61 rfl (info_rg zB zB _)) rfl ⟨rge_zero _ _ _ _ _ (acR_no (by rw [HN.out]; decide)) (by rw [HN.out]; rfl), ab_chg hwv C5 (by omega)⟩
      · have h6 : ¬ ((k : Int) ≤ 32) := by omega
        have HN : Hid (acN r b m = 2) := acN_form (by rw [hk, decide_eq_false h5]; simp)
        have hB := hB2.keep hbv
        have hwv := ab_trans hw hbv
        clear hB2
        go_wp2_with (refine st_rg rfl rfl (p1 := zB) (a1 := zB) hB rfl rfl ?_; intro W5 hB5 C5)
        exact bodyPost_ret (results_c2 rfl _ _ _ 61 _ (0, 0) _ _ rfl rfl hB5 Try.underlying61 rfl (info_rg zB zB _)) rfl ⟨rge_zero _ _ _ _ _ (acR_no (by rw [HN.out]; decide)) (by rw [HN.out]; rfl), ab_chg hwv C5 (by omega)⟩
end Go.Proofs.Ytpcejajidhfmpaa
