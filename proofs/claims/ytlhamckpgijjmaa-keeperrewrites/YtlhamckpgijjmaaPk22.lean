/-
  ballot.Prepare and ballot.Accept.
  The document's Prepare, Accept and Same.
-/
import Derived.Test.YtlhamckpgijjmaaPk21
import Derived.Test.YtlhamckpgijjmaaPk17
namespace Go.Proofs.Ytlhamckpgijjmaa
open Go.RowKit
set_option linter.unusedVariables false
set_option maxRecDepth 100000

theorem gd_le {r : Rg} (h : gdR r = true) : r.l.length ≤ 32 := by
  refine Classical.byContradiction fun hn => ?_
  unfold gdR at h
  rw [gd_0 hn] at h
  cases h
theorem Io.nil (W : World) (base : Nat) : Io W base (.slice none 0 0) [] := own_nil W base
/-- What a call that answers a register and an error answers. -/
def RgE (W : World) (base : Nat) (r : Rg) (x : Value) (e : Ending) : Prop := ∃ q n c, e = .returned (.tuple #[rV r.p r.a (.slice q n c), x]) ∧ Io W base (.slice q n c) r.l ∧ r.l.length = n
theorem rge_zero (W : World) (base : Nat) (r : Rg) (x y : Value) (hr : r = zR) (hx : x = y) : RgE W base r x (.returned (.tuple #[rV zB zB (.slice none 0 0), y])) := by
  subst hr hx
  exact ⟨none, 0, 0, rfl, Io.nil _ _, rfl⟩
theorem rge_of {W : World} {base : Nat} {p a : Bt} {l : List Int} {v : Value} (r : Rg) (x y : Value) (hr : r = ⟨p, a, l⟩) (hx : x = y) (hv : Io W base v l) : RgE W base r x (.returned (.tuple #[rV p a v, y])) := by
  subst hr hx
  obtain ⟨q, c, e⟩ := hv.is.form
  rw [e] at hv ⊢
  exact ⟨q, _, c, rfl, hv, rfl⟩
theorem rg_one (p a : Bt) (q : Option Addr) (n c : Nat) : (rC p a (.slice q n c)).all (·.oneCell') = true := by simp [Value.oneCell']
theorem bt_one (b : Bt) : (bC b).all (·.oneCell') = true := by simp [Value.oneCell']
section
variable {ops : Array Oper} {rest : List Oper} {o : Oper} {a : Act} {w : World} {Q : Exit → Act → World → Prop}
/-- A register into its box. -/
theorem st_rg (hgd : o.guard = none) {x y : Operand} (ho : o.op = .store 40 x y) {g : Nat} {p0 a0 p1 a1 : Bt} {v0 : Value} {q : Option Addr} {n c : Nat} {t : TypeId} (hB : Blk w g (rC p0 a0 v0) t) (hx : a.eval x = .pointer (some ⟨g, 0, none⟩)) (hy : a.eval y = rV p1 a1 (.slice q n c))
    (h : ∀ W', Blk W' g (rC p1 a1 (.slice q n c)) t → Chg g w W' → wpList Try.prog ops Q rest (a.put o.dst undef) W') : wpList Try.prog ops Q (o :: rest) a w :=
  st_blk hgd ho hB hx hy (info_rg p1 a1 _) rfl (rg_one _ _ _ _ _) h
end
set_option maxHeartbeats 1000000 in
theorem prepare_any (r : Rg) (b : Bt) (v : Value) (w : World) (hv : Is w v r.l) :
    Calls Try.prog 43 #[rV r.p r.a v, bV b] w fun e w' => RgE w' w.heap.size (prR r b) (errV (prN r b)) e ∧ Below w.heap.size w w' := by
  obtain ⟨q, c, e⟩ := hv.form
  subst e
  obtain ⟨n, hn⟩ : ∃ n, r.l.length = n := ⟨_, rfl⟩
  rw [hn] at hv ⊢
  have HG : gdN r.p r.a n = gdR r := by unfold gdR; rw [hn]
  go_enter Try.func43, Try.ntmps43
  go_upto_region 1 with fail
  obtain ⟨A, hAe, hB0, hB1, hB2, hw⟩ := blk3 w (rC r.p r.a (.slice q n c)) (bC b) (rC zB zB (.slice none 0 0)) 40 38 40
  rw [show ((w.alloc (.cells (rC r.p r.a (.slice q n c)) 40)).alloc (.cells (bC b) 38)).alloc (.cells #[.int .i64 0, .int .i64 0, .int .i64 0, .int .i64 0, .int .i64 0, .int .i64 0, .slice none 0 0] 40) = A from hAe]
  obtain ⟨c0, c1, c2, c3, c4, c5, c6⟩ := cells7 hB0
  obtain ⟨d0, d1, d2⟩ := cells3 hB1
  have hbv := Below.refl A.heap.size A
  clear hAe
  go_wp2_with fail
  refine (good9_any r.p r.a q n c _).mono ?_
  rintro e W1 ⟨rfl, b1⟩
  rw [HG]
  have hbv := ab_trans hbv b1
  cases h1 : gdR r
  · have HN : Hid (prN r b = 2) := prN_form (by rw [h1]; rfl)
    have hB := hB2.keep hbv
    have hwv := ab_trans hw hbv
    clear hB2
    go_wp2_with (refine st_rg rfl rfl (p1 := zB) (a1 := zB) hB rfl rfl ?_; intro W5 hB5 C5)
    exact bodyPost_ret (results_c2 rfl _ _ _ 40 _ (0, 0) _ _ rfl rfl hB5 Try.underlying40 rfl (info_rg zB zB _)) rfl ⟨rge_zero _ _ _ _ _ (prR_no (by rw [HN.out]; decide)) (by rw [HN.out]; rfl), ab_chg hwv C5 (by omega)⟩
  · go_wp2_with fail
    refine (asks_any b _).mono ?_
    rintro e W2 ⟨rfl, b2⟩
    have hbv := ab_trans hbv b2
    cases h2 : asB b
    · have HN : Hid (prN r b = 2) := prN_form (by rw [h1, h2]; rfl)
      have hB := hB2.keep hbv
      have hwv := ab_trans hw hbv
      clear hB2
      go_wp2_with (refine st_rg rfl rfl (p1 := zB) (a1 := zB) hB rfl rfl ?_; intro W5 hB5 C5)
      exact bodyPost_ret (results_c2 rfl _ _ _ 40 _ (0, 0) _ _ rfl rfl hB5 Try.underlying40 rfl (info_rg zB zB _)) rfl ⟨rge_zero _ _ _ _ _ (prR_no (by rw [HN.out]; decide)) (by rw [HN.out]; rfl), ab_chg hwv C5 (by omega)⟩
    · go_wp2_with fail
      refine (bless_any r.p b _).mono ?_
      rintro e W3 ⟨rfl, b3⟩
      have hbv := ab_trans hbv b3
      cases h3 : lt3 r.p b
      · have HN : Hid (prN r b = 11) := prN_stale (by rw [h1, h2]; rfl) h3
        have hB := hB2.keep hbv
        have hwv := ab_trans hw hbv
        clear hB2
        go_wp2_with (refine st_rg rfl rfl (p1 := zB) (a1 := zB) hB rfl rfl ?_; intro W5 hB5 C5)
        exact bodyPost_ret (results_c2 rfl _ _ _ 40 _ (0, 0) _ _ rfl rfl hB5 Try.underlying40 rfl (info_rg zB zB _)) rfl ⟨rge_zero _ _ _ _ _ (prR_no (by rw [HN.out]; decide)) (by rw [HN.out]; rfl), ab_chg hwv C5 (by omega)⟩
      · have HN : Hid (prN r b = 0) := prN_ok (by rw [h1, h2]; rfl) h3
        have HL : Hid (r.l.length ≤ 32) := gd_le h1
        have hB := hB2.keep hbv
        have hX := hB0.keep hbv
        have hY := hB1.keep hbv
        have hwv := ab_trans hw hbv
        have hvv := hv.keep hwv
        clear hB2 hB0 hB1 hv c0 c1 c2 c3 c4 c5 c6 d0 d1 d2 b1 b2 b3 hbv
        go_upto_region 5 with fail
        refine wp_region_held_drew (S := fun w' => Below w.heap.size w w' ∧ Blk w' w.heap.size (rC r.p r.a (.slice q n c)) 40 ∧ Blk w' (w.heap.size + 1) (bC b) 38) (by kernel_rfl) ⟨ab_drew hwv, hX.drew, hY.drew⟩ (fun hHeld => ?_)
        refine takeH (i := 0) (some 23) rfl rfl (by kernel_rfl) (by kernel_rfl) (by kernel_rfl) (fun _ _ _ h => h) (by rfl) (fun w hSw => by (try dsimp only at hSw); have y0 := hSw.2.2.at (i := 0) rfl; have y1 := hSw.2.2.at (i := 1) rfl; have y2 := hSw.2.2.at (i := 2) rfl; go_simp; try rfl) hHeld ?_
        go_frame
        refine takeH (i := 1) (some 24) rfl rfl (by kernel_rfl) (by kernel_rfl) (by kernel_rfl) (fun _ _ _ h => h) (by rfl) (fun w hSw => by (try dsimp only at hSw); go_simp; try rfl) hHeld ?_
        go_frame
        refine takeH (i := 2) (some 25) rfl rfl (by kernel_rfl) (by kernel_rfl) (by kernel_rfl) (fun _ _ _ h => h) (by rfl) (fun w hSw => by (try dsimp only at hSw); have y0 := hSw.2.1.at (i := 3) rfl; have y1 := hSw.2.1.at (i := 4) rfl; have y2 := hSw.2.1.at (i := 5) rfl; go_simp; try rfl) hHeld ?_
        go_frame
        refine takeH (i := 3) (some 26) rfl rfl (by kernel_rfl) (by kernel_rfl) (by kernel_rfl) (fun _ _ _ h => h) (by rfl) (fun w hSw => by (try dsimp only at hSw); go_simp; try rfl) hHeld ?_
        go_frame
        refine takeH (i := 4) (some 27) rfl rfl (by kernel_rfl) (by kernel_rfl) (by kernel_rfl) (fun _ _ _ h => h) (by rfl) (fun w hSw => by (try dsimp only at hSw); have y0 := hSw.2.1.at (i := 6) rfl; go_simp; try rfl) hHeld ?_
        go_frame
        refine wpAnyH_ready (rs := [5]) (by kernel_rfl) (by simp) (AllReadyH.cons rfl (fun K hK => ?_) AllReadyH.nil)
        go_simp
        refine (bclone_any _ r.l _ (hvv.keep (ab_drew (Below.refl _ _))) (by have := HL.out; omega)).mono ?_
        rintro e W4 ⟨v4, rfl, hO4, b4⟩
        show K _ _
        have hw4 : Below w.heap.size w W4 := ab_trans hHeld.1 b4
        have hX4 := hHeld.2.1.keep b4
        have hY4 := hHeld.2.2.keep b4
        have hB4 := hB.drew.keep b4
        obtain ⟨q4, c4, e4⟩ := hO4.is.form
        rw [hn] at e4
        subst e4
        refine hK.out _ _ ⟨hw4, hX4, hY4⟩ (fun hHeld => ?_)
        clear hK K
        refine takeH (i := 6) (some 29) rfl rfl (by kernel_rfl) (by kernel_rfl) (by kernel_rfl) (fun _ _ _ h => h) (by rfl) (fun w hSw => by (try dsimp only at hSw); go_simp; try rfl) hHeld ?_
        go_frame
        refine wpAnyH_ready (rs := [7]) (by kernel_rfl) (by simp) (AllReadyH.cons rfl (fun K hK => ?_) AllReadyH.nil)
        rw [if_pos (by rfl)]
        refine stW none rfl rfl hB4 rfl rfl (info_rg b r.a (.slice q4 n c4)) rfl (rg_one _ _ _ _ _) fun W5 hB5 C5 => ?_
        have hw5 := ab_chg hw4 C5 (by omega)
        have hO5 : Io W5 W3.drew.heap.size (.slice q4 n c4) r.l := own_chgT hO4 C5 (fun e => by have h1 := (hO4.lt _ e).1; have h2 := hB.lt; have h3 : W3.drew.heap.size = W3.heap.size := rfl; omega)
        refine hK.out _ _ ⟨hw5, hX4.chg C5 (by omega), hY4.chg C5 (by omega)⟩ (fun hHeld => ?_)
        clear hK K
        refine takeH (i := 8) (some 5) rfl rfl (by kernel_rfl) (by kernel_rfl) (by kernel_rfl) (fun _ _ _ h => h) (by rfl) (fun w hSw => by (try dsimp only at hSw); go_simp; try rfl) hHeld ?_
        go_frame
        refine wpAnyH_done (by kernel_rfl) ?_ _
        go_wp2_with fail
        exact bodyPost_ret (results_c2 rfl _ _ _ 40 _ (0, 0) _ .nilIface rfl rfl hB5 Try.underlying40 rfl (info_rg b r.a _)) rfl ⟨rge_of _ _ _ (prR_ok HN.out) (errV_ok HN.out) (hO5.less (by have := hwv.size; exact this)), hw5⟩
set_option maxHeartbeats 1000000 in
theorem accept_any (r : Rg) (b : Bt) (v : Value) (vx : Value) (m : List Int) (w : World) (hv : Is w v r.l) (hx : Is w vx m) :
    Calls Try.prog 42 #[rV r.p r.a v, bV b, vx] w fun e w' => RgE w' w.heap.size (acR r b m) (errV (acN r b m)) e ∧ Below w.heap.size w w' := by
  obtain ⟨q, c, e⟩ := hv.form
  subst e
  obtain ⟨qx, cx, e⟩ := hx.form
  subst e
  obtain ⟨n, hn⟩ : ∃ n, r.l.length = n := ⟨_, rfl⟩
  obtain ⟨k, hk⟩ : ∃ k, m.length = k := ⟨_, rfl⟩
  rw [hn] at hv ⊢
  rw [hk] at hx ⊢
  have HG : gdN r.p r.a n = gdR r := by unfold gdR; rw [hn]
  go_enter Try.func42, Try.ntmps42
  go_upto_region 1 with fail
  obtain ⟨A, hAe, hB0, hB1, hB2, hw⟩ := blk3 w (rC r.p r.a (.slice q n c)) (bC b) (rC zB zB (.slice none 0 0)) 40 38 40
  rw [show ((w.alloc (.cells (rC r.p r.a (.slice q n c)) 40)).alloc (.cells (bC b) 38)).alloc (.cells #[.int .i64 0, .int .i64 0, .int .i64 0, .int .i64 0, .int .i64 0, .int .i64 0, .slice none 0 0] 40) = A from hAe]
  obtain ⟨c0, c1, c2, c3, c4, c5, c6⟩ := cells7 hB0
  obtain ⟨d0, d1, d2⟩ := cells3 hB1
  have hbv := Below.refl A.heap.size A
  clear hAe
  go_wp2_with fail
  refine (good9_any r.p r.a q n c _).mono ?_
  rintro e W1 ⟨rfl, b1⟩
  rw [HG]
  have hbv := ab_trans hbv b1
  cases h1 : gdR r
  · have HN : Hid (acN r b m = 2) := acN_form (by rw [h1]; rfl)
    have hB := hB2.keep hbv
    have hwv := ab_trans hw hbv
    clear hB2
    go_wp2_with (refine st_rg rfl rfl (p1 := zB) (a1 := zB) hB rfl rfl ?_; intro W5 hB5 C5)
    exact bodyPost_ret (results_c2 rfl _ _ _ 40 _ (0, 0) _ _ rfl rfl hB5 Try.underlying40 rfl (info_rg zB zB _)) rfl ⟨rge_zero _ _ _ _ _ (acR_no (by rw [HN.out]; decide)) (by rw [HN.out]; rfl), ab_chg hwv C5 (by omega)⟩
  · go_wp2_with fail
    refine (asks_any b _).mono ?_
    rintro e W2 ⟨rfl, b2⟩
    have hbv := ab_trans hbv b2
    cases h2 : asB b
    · have HN : Hid (acN r b m = 2) := acN_form (by rw [h1, h2]; rfl)
      have hB := hB2.keep hbv
      have hwv := ab_trans hw hbv
      clear hB2
      go_wp2_with (refine st_rg rfl rfl (p1 := zB) (a1 := zB) hB rfl rfl ?_; intro W5 hB5 C5)
      exact bodyPost_ret (results_c2 rfl _ _ _ 40 _ (0, 0) _ _ rfl rfl hB5 Try.underlying40 rfl (info_rg zB zB _)) rfl ⟨rge_zero _ _ _ _ _ (acR_no (by rw [HN.out]; decide)) (by rw [HN.out]; rfl), ab_chg hwv C5 (by omega)⟩
    · by_cases h5 : k ≤ 32
      · have h6 : ((k : Int) ≤ 32) := by omega
        have H5 : Hid (decide (m.length ≤ 32) = true) := by show _ = _; rw [hk]; exact decide_eq_true h5
        go_wp2_with fail
        refine (bless_any b r.p _).mono ?_
        rintro e W3 ⟨rfl, b3⟩
        have hbv := ab_trans hbv b3
        cases h3 : lt3 b r.p
        · have HN : Hid (acN r b m = 0) := acN_ok (by rw [h1, h2, H5.out]; rfl) h3
          have hB := hB2.keep hbv
          have hY := hB1.keep hbv
          have hwv := ab_trans hw hbv
          have hvv := hx.keep hwv
          clear hB2 hB0 hB1 hv hx c0 c1 c2 c3 c4 c5 c6 d0 d1 d2 b1 b2 b3 hbv
          go_upto_region 5 with fail
          refine wp_region_held_drew (S := fun w' => Below w.heap.size w w' ∧ Blk w' (w.heap.size + 1) (bC b) 38) (by kernel_rfl) ⟨ab_drew hwv, hY.drew⟩ (fun hHeld => ?_)
          refine takeH (i := 0) (some 29) rfl rfl (by kernel_rfl) (by kernel_rfl) (by kernel_rfl) (fun _ _ _ h => h) (by rfl) (fun w hSw => by (try dsimp only at hSw); have y0 := hSw.2.at (i := 0) rfl; have y1 := hSw.2.at (i := 1) rfl; have y2 := hSw.2.at (i := 2) rfl; go_simp; try rfl) hHeld ?_
          go_frame
          refine takeH (i := 1) (some 30) rfl rfl (by kernel_rfl) (by kernel_rfl) (by kernel_rfl) (fun _ _ _ h => h) (by rfl) (fun w hSw => by (try dsimp only at hSw); have y0 := hSw.2.at (i := 0) rfl; have y1 := hSw.2.at (i := 1) rfl; have y2 := hSw.2.at (i := 2) rfl; go_simp; try rfl) hHeld ?_
          go_frame
          refine takeH (i := 2) (some 31) rfl rfl (by kernel_rfl) (by kernel_rfl) (by kernel_rfl) (fun _ _ _ h => h) (by rfl) (fun w hSw => by (try dsimp only at hSw); go_simp; try rfl) hHeld ?_
          go_frame
          refine wpAnyH_ready (rs := [3]) (by kernel_rfl) (by simp) (AllReadyH.cons rfl (fun K hK => ?_) AllReadyH.nil)
          go_simp
          refine (bclone_any _ m _ (hvv.keep (ab_drew (Below.refl _ _))) (by omega)).mono ?_
          rintro e W4 ⟨v4, rfl, hO4, b4⟩
          show K _ _
          have hw4 : Below w.heap.size w W4 := ab_trans hHeld.1 b4
          have hY4 := hHeld.2.keep b4
          have hB4 := hB.drew.keep b4
          obtain ⟨q4, c4, e4⟩ := hO4.is.form
          rw [hk] at e4
          subst e4
          refine hK.out _ _ ⟨hw4, hY4⟩ (fun hHeld => ?_)
          clear hK K
          refine takeH (i := 4) (some 33) rfl rfl (by kernel_rfl) (by kernel_rfl) (by kernel_rfl) (fun _ _ _ h => h) (by rfl) (fun w hSw => by (try dsimp only at hSw); go_simp; try rfl) hHeld ?_
          go_frame
          refine wpAnyH_ready (rs := [5]) (by kernel_rfl) (by simp) (AllReadyH.cons rfl (fun K hK => ?_) AllReadyH.nil)
          rw [if_pos (by rfl)]
          refine stW none rfl rfl hB4 rfl rfl (info_rg b b (.slice q4 k c4)) rfl (rg_one _ _ _ _ _) fun W5 hB5 C5 => ?_
          have hw5 := ab_chg hw4 C5 (by omega)
          have hO5 : Io W5 W3.drew.heap.size (.slice q4 k c4) m := own_chgT hO4 C5 (fun e => by have h1 := (hO4.lt _ e).1; have h2 := hB.lt; have h3 : W3.drew.heap.size = W3.heap.size := rfl; omega)
          refine hK.out _ _ ⟨hw5, hY4.chg C5 (by omega)⟩ (fun hHeld => ?_)
          clear hK K
          refine takeH (i := 6) (some 7) rfl rfl (by kernel_rfl) (by kernel_rfl) (by kernel_rfl) (fun _ _ _ h => h) (by rfl) (fun w hSw => by (try dsimp only at hSw); go_simp; try rfl) hHeld ?_
          go_frame
          refine wpAnyH_done (by kernel_rfl) ?_ _
          go_wp2_with fail
          exact bodyPost_ret (results_c2 rfl _ _ _ 40 _ (0, 0) _ .nilIface rfl rfl hB5 Try.underlying40 rfl (info_rg b b _)) rfl ⟨rge_of _ _ _ (acR_ok HN.out) (errV_ok HN.out) (hO5.less (by have := hwv.size; exact this)), hw5⟩
        · have HN : Hid (acN r b m = 11) := acN_stale (by rw [h1, h2, H5.out]; rfl) h3
          have hB := hB2.keep hbv
          have hwv := ab_trans hw hbv
          clear hB2
          go_wp2_with (refine st_rg rfl rfl (p1 := zB) (a1 := zB) hB rfl rfl ?_; intro W5 hB5 C5)
          exact bodyPost_ret (results_c2 rfl _ _ _ 40 _ (0, 0) _ _ rfl rfl hB5 Try.underlying40 rfl (info_rg zB zB _)) rfl ⟨rge_zero _ _ _ _ _ (acR_no (by rw [HN.out]; decide)) (by rw [HN.out]; rfl), ab_chg hwv C5 (by omega)⟩
      · have h6 : ¬ ((k : Int) ≤ 32) := by omega
        have HN : Hid (acN r b m = 2) := acN_form (by rw [hk, decide_eq_false h5]; simp)
        have hB := hB2.keep hbv
        have hwv := ab_trans hw hbv
        clear hB2
        go_wp2_with (refine st_rg rfl rfl (p1 := zB) (a1 := zB) hB rfl rfl ?_; intro W5 hB5 C5)
        exact bodyPost_ret (results_c2 rfl _ _ _ 40 _ (0, 0) _ _ rfl rfl hB5 Try.underlying40 rfl (info_rg zB zB _)) rfl ⟨rge_zero _ _ _ _ _ (acR_no (by rw [HN.out]; decide)) (by rw [HN.out]; rfl), ab_chg hwv C5 (by omega)⟩
end Go.Proofs.Ytlhamckpgijjmaa
namespace Go.Proofs.Ytlhamckpgijjmaa
open Go.RowKit
set_option linter.unusedVariables false
set_option maxRecDepth 100000

/-- The same with slices that need not be the call's own. -/
def RgI (W : World) (r : Rg) (x : Value) (e : Ending) : Prop := ∃ q n c, e = .returned (.tuple #[rV r.p r.a (.slice q n c), x]) ∧ Is W (.slice q n c) r.l ∧ r.l.length = n
theorem rgi_zero (W : World) (r : Rg) (x y : Value) (hr : r = zR) (hx : x = y) : RgI W r x (.returned (.tuple #[rV zB zB (.slice none 0 0), y])) := by
  subst hr hx
  exact ⟨none, 0, 0, rfl, Is.nil _, rfl⟩
theorem rgi_of {W : World} {p a : Bt} {l : List Int} {v : Value} (r : Rg) (x y : Value) (hr : r = ⟨p, a, l⟩) (hx : x = y) (hv : Is W v l) : RgI W r x (.returned (.tuple #[rV p a v, y])) := by
  subst hr hx
  obtain ⟨q, c, e⟩ := hv.form
  rw [e] at hv ⊢
  exact ⟨q, _, c, rfl, hv, rfl⟩
theorem as_no {b : Bt} (h : whB b = true) (k : noB b = true) : asB b = false := by unfold asB; rw [h, k]; rfl
theorem as_yes {b : Bt} (h : whB b = true) (k : noB b = false) : asB b = true := by unfold asB; rw [h, k]; rfl
theorem as_not {b : Bt} (h : whB b = false) : asB b = false := by unfold asB; rw [h]; rfl
theorem eq3 (a b : Bt) : (decide (a.n = b.n) && (decide (a.nd = b.nd) && decide (a.lf = b.lf))) = eqB a b := by
  unfold eqB
  rw [Bool.eq_iff_iff]
  simp
section
attribute [local go_sem] ok_foldB
set_option maxHeartbeats 1000000 in
theorem rprepare_any (r : Rg) (b : Bt) (v : Value) (w : World) (hv : Is w v r.l) :
    Calls Try.prog 32 #[rV r.p r.a v, bV b] w fun e w' => RgI w' (prR r b) (.int .i64 ((prN r b : Nat) : Int)) e ∧ Below w.heap.size w w' := by
  obtain ⟨q, c, e⟩ := hv.form
  subst e
  obtain ⟨n, hn⟩ : ∃ n, r.l.length = n := ⟨_, rfl⟩
  rw [hn] at hv ⊢
  have HG : gdN r.p r.a n = gdR r := by unfold gdR; rw [hn]
  go_enter Try.func32, Try.ntmps32
  go_upto_region 1 with fail
  obtain ⟨A, hAe, hB0, hB1, hB2, hw⟩ := blk3 w (rC r.p r.a (.slice q n c)) (bC b) (rC zB zB (.slice none 0 0)) 40 38 40
  rw [show ((w.alloc (.cells (rC r.p r.a (.slice q n c)) 40)).alloc (.cells (bC b) 38)).alloc (.cells #[.int .i64 0, .int .i64 0, .int .i64 0, .int .i64 0, .int .i64 0, .int .i64 0, .slice none 0 0] 40) = A from hAe]
  obtain ⟨c0, c1, c2, c3, c4, c5, c6⟩ := cells7 hB0
  obtain ⟨d0, d1, d2⟩ := cells3 hB1
  have hbv := Below.refl A.heap.size A
  clear hAe
  go_wp2_with fail
  refine (rgood_any r.p r.a q n c _).mono ?_
  rintro e W1 ⟨rfl, b1⟩
  rw [HG]
  have hbv := ab_trans hbv b1
  cases h1 : gdR r
  · have HN : Hid (prN r b = 2) := prN_form (by rw [h1]; rfl)
    have hB := hB2.keep hbv
    have hwv := ab_trans hw hbv
    clear hB2
    go_wp2_with (refine st_rg rfl rfl (p1 := zB) (a1 := zB) hB rfl rfl ?_; intro W5 hB5 C5)
    exact bodyPost_ret (results_c2 rfl _ _ _ 40 _ (0, 0) _ (.int .i64 2) rfl rfl hB5 Try.underlying40 rfl (info_rg zB zB _)) rfl ⟨rgi_zero _ _ _ _ (prR_no (by rw [HN.out]; decide)) (by rw [HN.out]; rfl), ab_chg hwv C5 (by omega)⟩
  · go_wp2_with fail
    refine (sound_any b _).mono ?_
    rintro e W2 ⟨rfl, b2⟩
    have hbv := ab_trans hbv b2
    cases h2 : whB b
    · have HN : Hid (prN r b = 2) := prN_form (by rw [h1, as_not h2]; rfl)
      have hB := hB2.keep hbv
      have hwv := ab_trans hw hbv
      clear hB2
      go_wp2_with (refine st_rg rfl rfl (p1 := zB) (a1 := zB) hB rfl rfl ?_; intro W5 hB5 C5)
      exact bodyPost_ret (results_c2 rfl _ _ _ 40 _ (0, 0) _ (.int .i64 2) rfl rfl hB5 Try.underlying40 rfl (info_rg zB zB _)) rfl ⟨rgi_zero _ _ _ _ (prR_no (by rw [HN.out]; decide)) (by rw [HN.out]; rfl), ab_chg hwv C5 (by omega)⟩
    · have h4 := and3 b.n b.nd b.lf
      cases h3 : noB b
      · rw [h3] at h4
        have h6 := eq3 b r.p
        cases h5 : eqB b r.p
        · rw [h5] at h6
          go_wp2_with fail
          refine (rbless_any b r.p _).mono ?_
          rintro e W3 ⟨rfl, b3⟩
          have hbv := ab_trans hbv b3
          cases h7 : lt3 b r.p
          · have HN : Hid (prN r b = 0) := prN_ok (by rw [h1, as_yes h2 h3]; rfl) (by
              cases h8 : lt3 r.p b
              · rw [lt3_eq h7 h8] at h5; cases h5
              · rfl)
            have hB := hB2.keep hbv
            have hX := hB0.keep hbv
            have hwv := ab_trans hw hbv
            have hvv := hv.keep hwv
            have f0 := hX.frozen 0
            have f1 := hX.frozen 1
            have f2 := hX.frozen 2
            have hvw : Is w (.slice q n c) r.l := hv
            clear hB2 hB0 hB1
            go_upto_region 6 with fail
            have hX6 : Blk _ w.heap.size (rC b r.a (.slice q n c)) 40 := ((hX.set 0 (.int .i64 b.n)).set 1 (.int .i64 b.nd)).set 2 (.int .i64 b.lf)
            have C6 := ((chg_set W3 w.heap.size 0 (.int .i64 b.n)).trans (chg_set _ w.heap.size 1 (.int .i64 b.nd))).trans (chg_set _ w.heap.size 2 (.int .i64 b.lf))
            have hB6 := hB.chg C6 (by omega)
            have hw6 := ab_chg hwv C6 (Nat.le_refl _)
            clear c0 c1 c2 c3 c4 c5 c6 d0 d1 d2 b1 b2 b3 hbv hX hB hwv hvv f0 f1 f2 C6
            generalize ((W3.setCell ⟨w.heap.size, 0, none⟩ (.int .i64 b.n)).setCell ⟨w.heap.size, 1, none⟩ (.int .i64 b.nd)).setCell ⟨w.heap.size, 2, none⟩ (.int .i64 b.lf) = W6 at *
            obtain ⟨c0, c1, c2, c3, c4, c5, c6⟩ := cells7 hX6
            have hbv := Below.refl W6.heap.size W6
            go_wp2_with (refine st_rg rfl rfl (p1 := b) (a1 := r.a) hB6 rfl rfl ?_; intro W5 hB5 C5)
            have hw5 := ab_chg hw6 C5 (by omega)
            exact bodyPost_ret (results_c2 rfl _ _ _ 40 _ (0, 0) _ (.int .i64 0) rfl rfl hB5 Try.underlying40 rfl (info_rg b r.a _)) rfl ⟨rgi_of _ _ _ (prR_ok HN.out) (by rw [HN.out]; rfl) (hvw.keep hw5), hw5⟩
          · have HN : Hid (prN r b = 11) := prN_stale (by rw [h1, as_yes h2 h3]; rfl) (lt3_asym h7)
            have hB := hB2.keep hbv
            have hwv := ab_trans hw hbv
            clear hB2
            go_wp2_with (refine st_rg rfl rfl (p1 := zB) (a1 := zB) hB rfl rfl ?_; intro W5 hB5 C5)
            exact bodyPost_ret (results_c2 rfl _ _ _ 40 _ (0, 0) _ (.int .i64 11) rfl rfl hB5 Try.underlying40 rfl (info_rg zB zB _)) rfl ⟨rgi_zero _ _ _ _ (prR_no (by rw [HN.out]; decide)) (by rw [HN.out]; rfl), ab_chg hwv C5 (by omega)⟩
        · obtain rfl := eqB_iff.1 h5
          rw [h5] at h6
          have HN : Hid (prN r r.p = 11) := prN_stale (by rw [h1, as_yes h2 h3]; rfl) (lt3_self _)
          have hB := hB2.keep hbv
          have hwv := ab_trans hw hbv
          clear hB2 h6 h5
          go_wp2_with (refine st_rg rfl rfl (p1 := zB) (a1 := zB) hB rfl rfl ?_; intro W5 hB5 C5)
          exact bodyPost_ret (results_c2 rfl _ _ _ 40 _ (0, 0) _ (.int .i64 11) rfl rfl hB5 Try.underlying40 rfl (info_rg zB zB _)) rfl ⟨rgi_zero _ _ _ _ (prR_no (by rw [HN.out]; decide)) (by rw [HN.out]; rfl), ab_chg hwv C5 (by omega)⟩
      · have HN : Hid (prN r b = 2) := prN_form (by rw [h1, as_no h2 h3]; rfl)
        obtain rfl := noB_iff.1 h3
        have hB := hB2.keep hbv
        have hwv := ab_trans hw hbv
        clear hB2 h4 h3 h2
        go_wp2_with (refine st_rg rfl rfl (p1 := zB) (a1 := zB) hB rfl rfl ?_; intro W5 hB5 C5)
        exact bodyPost_ret (results_c2 rfl _ _ _ 40 _ (0, 0) _ (.int .i64 2) rfl rfl hB5 Try.underlying40 rfl (info_rg zB zB _)) rfl ⟨rgi_zero _ _ _ _ (prR_no (by rw [HN.out]; decide)) (by rw [HN.out]; rfl), ab_chg hwv C5 (by omega)⟩
set_option maxHeartbeats 1000000 in
theorem raccept_any (r : Rg) (b : Bt) (v : Value) (vx : Value) (m : List Int) (w : World) (hv : Is w v r.l) (hx : Is w vx m) :
    Calls Try.prog 33 #[rV r.p r.a v, bV b, vx] w fun e w' => RgI w' (acR r b m) (.int .i64 ((acN r b m : Nat) : Int)) e ∧ Below w.heap.size w w' := by
  obtain ⟨q, c, e⟩ := hv.form
  subst e
  obtain ⟨qx, cx, e⟩ := hx.form
  subst e
  obtain ⟨n, hn⟩ : ∃ n, r.l.length = n := ⟨_, rfl⟩
  obtain ⟨k, hk⟩ : ∃ k, m.length = k := ⟨_, rfl⟩
  rw [hn] at hv ⊢
  rw [hk] at hx ⊢
  have HG : gdN r.p r.a n = gdR r := by unfold gdR; rw [hn]
  go_enter Try.func33, Try.ntmps33
  go_upto_region 1 with fail
  obtain ⟨A, hAe, hB0, hB1, hB2, hw⟩ := blk3 w (rC r.p r.a (.slice q n c)) (bC b) (rC zB zB (.slice none 0 0)) 40 38 40
  rw [show ((w.alloc (.cells (rC r.p r.a (.slice q n c)) 40)).alloc (.cells (bC b) 38)).alloc (.cells #[.int .i64 0, .int .i64 0, .int .i64 0, .int .i64 0, .int .i64 0, .int .i64 0, .slice none 0 0] 40) = A from hAe]
  obtain ⟨c0, c1, c2, c3, c4, c5, c6⟩ := cells7 hB0
  obtain ⟨d0, d1, d2⟩ := cells3 hB1
  have hbv := Below.refl A.heap.size A
  clear hAe
  go_wp2_with fail
  refine (rgood_any r.p r.a q n c _).mono ?_
  rintro e W1 ⟨rfl, b1⟩
  rw [HG]
  have hbv := ab_trans hbv b1
  cases h1 : gdR r
  · have HN : Hid (acN r b m = 2) := acN_form (by rw [h1]; rfl)
    have hB := hB2.keep hbv
    have hwv := ab_trans hw hbv
    clear hB2
    go_wp2_with (refine st_rg rfl rfl (p1 := zB) (a1 := zB) hB rfl rfl ?_; intro W5 hB5 C5)
    exact bodyPost_ret (results_c2 rfl _ _ _ 40 _ (0, 0) _ (.int .i64 2) rfl rfl hB5 Try.underlying40 rfl (info_rg zB zB _)) rfl ⟨rgi_zero _ _ _ _ (acR_no (by rw [HN.out]; decide)) (by rw [HN.out]; rfl), ab_chg hwv C5 (by omega)⟩
  · go_wp2_with fail
    refine (sound_any b _).mono ?_
    rintro e W2 ⟨rfl, b2⟩
    have hbv := ab_trans hbv b2
    cases h2 : whB b
    · have HN : Hid (acN r b m = 2) := acN_form (by rw [h1, as_not h2]; rfl)
      have hB := hB2.keep hbv
      have hwv := ab_trans hw hbv
      clear hB2
      go_wp2_with (refine st_rg rfl rfl (p1 := zB) (a1 := zB) hB rfl rfl ?_; intro W5 hB5 C5)
      exact bodyPost_ret (results_c2 rfl _ _ _ 40 _ (0, 0) _ (.int .i64 2) rfl rfl hB5 Try.underlying40 rfl (info_rg zB zB _)) rfl ⟨rgi_zero _ _ _ _ (acR_no (by rw [HN.out]; decide)) (by rw [HN.out]; rfl), ab_chg hwv C5 (by omega)⟩
    · have h4 := and3 b.n b.nd b.lf
      cases h3 : noB b
      · rw [h3] at h4
        by_cases h5 : k ≤ 32
        · have h6 : ((k : Int) ≤ 32) := by omega
          have H5 : Hid (decide (m.length ≤ 32) = true) := by show _ = _; rw [hk]; exact decide_eq_true h5
          go_wp2_with fail
          refine (rbless_any b r.p _).mono ?_
          rintro e W3 ⟨rfl, b3⟩
          have hbv := ab_trans hbv b3
          cases h7 : lt3 b r.p
          · have HN : Hid (acN r b m = 0) := acN_ok (by rw [h1, as_yes h2 h3, H5.out]; rfl) h7
            have hB := hB2.keep hbv
            have hY := hB1.keep hbv
            have hwv := ab_trans hw hbv
            have hvv := hx.keep hwv
            clear hB2 hB0 hB1 hv hx c0 c1 c2 c3 c4 c5 c6 d0 d1 d2 b1 b2 b3 hbv h4
            go_upto_region 5 with fail
            refine wp_region_held_drew (S := fun w' => Below w.heap.size w w' ∧ Blk w' (w.heap.size + 1) (bC b) 38) (by kernel_rfl) ⟨ab_drew hwv, hY.drew⟩ (fun hHeld => ?_)
            refine takeH (i := 0) (some 32) rfl rfl (by kernel_rfl) (by kernel_rfl) (by kernel_rfl) (fun _ _ _ h => h) (by rfl) (fun w hSw => by (try dsimp only at hSw); have y0 := hSw.2.at (i := 0) rfl; have y1 := hSw.2.at (i := 1) rfl; have y2 := hSw.2.at (i := 2) rfl; go_simp; try rfl) hHeld ?_
            go_frame
            refine takeH (i := 1) (some 33) rfl rfl (by kernel_rfl) (by kernel_rfl) (by kernel_rfl) (fun _ _ _ h => h) (by rfl) (fun w hSw => by (try dsimp only at hSw); have y0 := hSw.2.at (i := 0) rfl; have y1 := hSw.2.at (i := 1) rfl; have y2 := hSw.2.at (i := 2) rfl; go_simp; try rfl) hHeld ?_
            go_frame
            refine takeH (i := 3) (some 35) rfl rfl (by kernel_rfl) (by kernel_rfl) (by kernel_rfl) (fun _ _ _ h => h) (by rfl) (fun w hSw => by (try dsimp only at hSw); go_simp; try rfl) hHeld ?_
            go_frame
            refine wpAnyH_ready (rs := [2]) (by kernel_rfl) (by simp) (AllReadyH.cons rfl (fun K hK => ?_) AllReadyH.nil)
            rw [if_pos (by rfl)]
            refine bs_iW (some 34) rfl rfl [] (vs := #[]) (by simp) (isl0 _) rfl (by decide) fun W4 own4 b4 => ?_
            have hw4 := ab_trans hHeld.1 b4
            have hY4 := hHeld.2.keep b4
            have hB4 := hB.drew.keep b4
            have hv4 := (hvv.keep (ab_drew (Below.refl _ _))).keep b4
            refine hK.out _ _ ⟨hw4, hY4⟩ (fun hHeld => ?_)
            clear hK K
            go_frame
            refine wpAnyH_ready (rs := [4]) (by kernel_rfl) (by simp) (AllReadyH.cons rfl (fun K hK => ?_) AllReadyH.nil)
            rw [if_pos (by rfl)]
            refine appiW W3.drew (some 36) rfl rfl rfl own4 rfl hv4 hk (by omega) b4 ?_
            intro v6 W6 own6 nn6 b6 gr6
            have hw6 : Below w.heap.size w W6 := ab_trans (ab_drew hwv) b6
            have hY6 := hY.drew.keep b6
            have hB6 := hB.drew.keep b6
            have hO6 : Io W6 W3.drew.heap.size v6 m := io_of (by simpa using own6)
            obtain ⟨q6, c6, e6⟩ := hO6.is.form
            rw [hk] at e6
            subst e6
            refine hK.out _ _ ⟨hw6, hY6⟩ (fun hHeld => ?_)
            clear hK K
            go_frame
            refine takeH (i := 5) (some 37) rfl rfl (by kernel_rfl) (by kernel_rfl) (by kernel_rfl) (fun _ _ _ h => h) (by rfl) (fun w hSw => by (try dsimp only at hSw); go_simp; try rfl) hHeld ?_
            go_frame
            refine wpAnyH_ready (rs := [6]) (by kernel_rfl) (by simp) (AllReadyH.cons rfl (fun K hK => ?_) AllReadyH.nil)
            rw [if_pos (by rfl)]
            refine stW none rfl rfl hB6 rfl rfl (info_rg b b (.slice q6 k c6)) rfl (rg_one _ _ _ _ _) fun W5 hB5 C5 => ?_
            have hw5 := ab_chg hw6 C5 (by omega)
            have hO5 : Io W5 W3.drew.heap.size (.slice q6 k c6) m := own_chgT hO6 C5 (fun e => by have h1 := (hO6.lt _ e).1; have h2 := hB.lt; have h3 : W3.drew.heap.size = W3.heap.size := rfl; omega)
            refine hK.out _ _ ⟨hw5, hY6.chg C5 (by omega)⟩ (fun hHeld => ?_)
            clear hK K
            refine takeH (i := 7) (some 7) rfl rfl (by kernel_rfl) (by kernel_rfl) (by kernel_rfl) (fun _ _ _ h => h) (by rfl) (fun w hSw => by (try dsimp only at hSw); go_simp; try rfl) hHeld ?_
            go_frame
            refine wpAnyH_done (by kernel_rfl) ?_ _
            go_wp2_with fail
            exact bodyPost_ret (results_c2 rfl _ _ _ 40 _ (0, 0) _ (.int .i64 0) rfl rfl hB5 Try.underlying40 rfl (info_rg b b _)) rfl ⟨rgi_of _ _ _ (acR_ok HN.out) (by rw [HN.out]; rfl) hO5.is, hw5⟩
          · have HN : Hid (acN r b m = 11) := acN_stale (by rw [h1, as_yes h2 h3, H5.out]; rfl) h7
            have hB := hB2.keep hbv
            have hwv := ab_trans hw hbv
            clear hB2
            go_wp2_with (refine st_rg rfl rfl (p1 := zB) (a1 := zB) hB rfl rfl ?_; intro W5 hB5 C5)
            exact bodyPost_ret (results_c2 rfl _ _ _ 40 _ (0, 0) _ (.int .i64 11) rfl rfl hB5 Try.underlying40 rfl (info_rg zB zB _)) rfl ⟨rgi_zero _ _ _ _ (acR_no (by rw [HN.out]; decide)) (by rw [HN.out]; rfl), ab_chg hwv C5 (by omega)⟩
        · have h6 : ¬ ((k : Int) ≤ 32) := by omega
          have HN : Hid (acN r b m = 2) := acN_form (by rw [hk, decide_eq_false h5]; simp)
          have hB := hB2.keep hbv
          have hwv := ab_trans hw hbv
          clear hB2
          go_wp2_with (refine st_rg rfl rfl (p1 := zB) (a1 := zB) hB rfl rfl ?_; intro W5 hB5 C5)
          exact bodyPost_ret (results_c2 rfl _ _ _ 40 _ (0, 0) _ (.int .i64 2) rfl rfl hB5 Try.underlying40 rfl (info_rg zB zB _)) rfl ⟨rgi_zero _ _ _ _ (acR_no (by rw [HN.out]; decide)) (by rw [HN.out]; rfl), ab_chg hwv C5 (by omega)⟩
      · have HN : Hid (acN r b m = 2) := acN_form (by rw [h1, as_no h2 h3]; rfl)
        obtain rfl := noB_iff.1 h3
        have hB := hB2.keep hbv
        have hwv := ab_trans hw hbv
        clear hB2 h4 h3 h2
        go_wp2_with (refine st_rg rfl rfl (p1 := zB) (a1 := zB) hB rfl rfl ?_; intro W5 hB5 C5)
        exact bodyPost_ret (results_c2 rfl _ _ _ 40 _ (0, 0) _ (.int .i64 2) rfl rfl hB5 Try.underlying40 rfl (info_rg zB zB _)) rfl ⟨rgi_zero _ _ _ _ (acR_no (by rw [HN.out]; decide)) (by rw [HN.out]; rfl), ab_chg hwv C5 (by omega)⟩
end
end Go.Proofs.Ytlhamckpgijjmaa
