/-
  A watch in memory; New, Tick, Saw, Lease, Leads, Age, Want.
-/
import Derived.Test.YtddpdmolknfjaaaTnA
namespace Go.Proofs.Ytddpdmolknfjaaa
open Go.RowKit
set_option linter.unusedVariables false
set_option maxRecDepth 100000

abbrev wtC (S : Wt) (v : Value) : Array Value := #[.int .i64 S.nd, .int .i64 S.lf, .int .i64 S.tk, .bool S.sn, v, .int .i64 S.ag]
abbrev wptr (b : Nat) : Value := .pointer (some ⟨b, 0, none⟩)
/-- A watch at block b. -/
structure Wh (W : World) (base b : Nat) (S : Wt) : Prop where
  mem : ∃ q c, Blk W b (wtC S (.slice q S.vl.length c)) 75 ∧ Io W base (.slice q S.vl.length c) S.vl
  len : S.vl.length ≤ 100000
  ge : base ≤ b
  age : 0 ≤ S.ag ∧ S.ag ≤ 1000
theorem Wh.lt {W : World} {base b : Nat} {S : Wt} (h : Wh W base b S) : b < W.heap.size := by
  obtain ⟨q, c, hB, -⟩ := h.mem
  exact hB.lt
theorem Wh.keep {W W' : World} {base b : Nat} {S : Wt} (h : Wh W base b S) (hb : Below W.heap.size W W') : Wh W' base b S := by
  obtain ⟨q, c, hB, hO⟩ := h.mem
  exact ⟨⟨q, c, hB.keep hb, hO.keep hb⟩, h.len, h.ge, h.age⟩
theorem Wh.frm {W W' : World} {base b : Nat} {S : Wt} {X : Nat → Prop} (h : Wh W base b S) (hf : Frm X W W') (hb : ¬ X b) (hx : NoI X W) : Wh W' base b S := by
  obtain ⟨q, c, hB, hO⟩ := h.mem
  exact ⟨⟨q, c, hB.frm hf hb, hO.frm hf hx⟩, h.len, h.ge, h.age⟩
theorem Wh.noI {W : World} {base b : Nat} {S : Wt} (h : Wh W base b S) : NoI (fun k => k = b) W := by
  obtain ⟨q, c, hB, hO⟩ := h.mem
  intro k hk hi
  subst hk
  exact absurd (hB.kindR.uniq hi) (by decide)
theorem Wh.cells {W : World} {base b : Nat} {S : Wt} (h : Wh W base b S) : ∃ q c, Is W (.slice q S.vl.length c) S.vl ∧ (∀ V, Below W.heap.size W V → V.cell? ⟨b, 0, none⟩ = some (.int .i64 S.nd) ∧ V.cell? ⟨b, 1, none⟩ = some (.int .i64 S.lf) ∧ V.cell? ⟨b, 2, none⟩ = some (.int .i64 S.tk) ∧ V.cell? ⟨b, 3, none⟩ = some (.bool S.sn) ∧ V.cell? ⟨b, 4, none⟩ = some (.slice q S.vl.length c) ∧ V.cell? ⟨b, 5, none⟩ = some (.int .i64 S.ag)) := by
  obtain ⟨q, c, hB, hO⟩ := h.mem
  exact ⟨q, c, hO.is, fun V hb => ⟨(hB.keep hb).at rfl, (hB.keep hb).at rfl, (hB.keep hb).at rfl, (hB.keep hb).at rfl, (hB.keep hb).at rfl, (hB.keep hb).at rfl⟩⟩
set_option maxHeartbeats 1000000 in
theorem tnew_ok (nd lf tk : Int) (w : World) (h : 0 ≤ nd ∧ 0 ≤ lf ∧ 1 ≤ tk ∧ tk ≤ 20) : Calls Try.prog 15 #[.int .i64 nd, .int .i64 lf, .int .i64 tk] w fun e w' => ∃ b, e = .returned (.tuple #[wptr b, .nilIface]) ∧ Wh w' w.heap.size b (newW nd lf tk) ∧ Below w.heap.size w w' := by
  have i1 : ¬ nd < 0 := by omega
  have i2 : ¬ lf < 0 := by omega
  have i3 : ¬ tk < 1 := by omega
  have i4 : ¬ 20 < tk := by omega
  clear h
  go_enter Try.func15, Try.ntmps15
  go_wp2_with fail
  go_ret2
  refine ⟨_, rfl, ⟨⟨none, 0, Blk.new _ _ _, gio_nil _ _⟩, Nat.zero_le _, Nat.le_refl _, ⟨Int.le_refl _, by show (0 : Int) ≤ 1000; omega⟩⟩, ?_⟩
  repeat (first | exact Below.refl _ _ | refine ab_alloc ?_ _)
set_option maxHeartbeats 1000000 in
theorem tnew_no (nd lf tk : Int) (w : World) (h : ¬ (0 ≤ nd ∧ 0 ≤ lf ∧ 1 ≤ tk ∧ tk ≤ 20)) : Calls Try.prog 15 #[.int .i64 nd, .int .i64 lf, .int .i64 tk] w fun e w' => e = .returned (.tuple #[.pointer none, Err 2]) ∧ w' = w := by
  by_cases i1 : nd < 0
  · clear h
    go_enter Try.func15, Try.ntmps15
    go_wp2_with fail
    go_ret2
    exact ⟨rfl, rfl⟩
  by_cases i2 : lf < 0
  · clear h
    go_enter Try.func15, Try.ntmps15
    go_wp2_with fail
    go_ret2
    exact ⟨rfl, rfl⟩
  by_cases i3 : tk < 1
  · clear h
    go_enter Try.func15, Try.ntmps15
    go_wp2_with fail
    go_ret2
    exact ⟨rfl, rfl⟩
  have i4 : 20 < tk := by omega
  clear h
  go_enter Try.func15, Try.ntmps15
  go_wp2_with fail
  go_ret2
  exact ⟨rfl, rfl⟩
set_option maxHeartbeats 1000000 in
theorem ttick_any (base b : Nat) (S : Wt) (w : World) (hW : Wh w base b S) : Calls Try.prog 16 #[wptr b] w fun e w' => e = .returned (.tuple #[]) ∧ Wh w' base b (tickW S) ∧ Chg b w w' := by
  obtain ⟨q, c, hB, hO⟩ := hW.mem
  obtain ⟨a0, a1⟩ := hW.age
  have y5 : w.cell? ⟨b, 5, none⟩ = some (.int .i64 S.ag) := hB.at rfl
  by_cases h : S.ag < 1000
  · have HT : Hid (tickW S = { S with ag := S.ag + 1 }) := if_pos h
    have HO : Hid (Io w base (.slice q S.vl.length c) S.vl) := hO
    have f5 := hB.frozen 5
    have hlt := hB.lt
    clear hO
    go_enter Try.func16, Try.ntmps16
    go_wp2_with fail
    go_end0
    have C5 := chg_set w b 5 (.int .i64 (S.ag + 1))
    rw [HT.out]
    exact ⟨rfl, ⟨⟨q, c, hB.set 5 _, own_chgT HO.out C5 (fun e => hW.noI b rfl (own_kindR HO.out e))⟩, hW.len, hW.ge, by dsimp only; omega⟩, C5⟩
  · have HT : Hid (tickW S = S) := if_neg h
    go_enter Try.func16, Try.ntmps16
    go_wp2_with fail
    go_end0
    rw [HT.out]
    exact ⟨rfl, hW, Chg.refl _ _⟩
theorem ttick_nil (w : World) : Calls Try.prog 16 #[.pointer none] w fun e w' => e = .returned (.tuple #[]) ∧ w' = w := by
  go_enter Try.func16, Try.ntmps16
  go_wp2_with fail
  go_end0
  exact ⟨rfl, rfl⟩
theorem tage_any (base b : Nat) (S : Wt) (w : World) (hW : Wh w base b S) : Calls Try.prog 22 #[wptr b] w fun e w' => e = .returned (.int .i64 S.ag) ∧ w' = w := by
  obtain ⟨q, c, hB, hO⟩ := hW.mem
  have y5 : w.cell? ⟨b, 5, none⟩ = some (.int .i64 S.ag) := hB.at rfl
  go_enter Try.func22, Try.ntmps22
  go_wp2_with fail
  go_ret
  exact ⟨rfl, rfl⟩
theorem tage_nil (w : World) : Calls Try.prog 22 #[.pointer none] w fun e w' => e = .returned (.int .i64 0) ∧ w' = w := by
  go_enter Try.func22, Try.ntmps22
  go_wp2_with fail
  go_ret
  exact ⟨rfl, rfl⟩
set_option maxHeartbeats 1000000 in
theorem tlease_any (base b : Nat) (S : Wt) (w : World) (hW : Wh w base b S) : Calls Try.prog 21 #[wptr b] w fun e w' => e = .returned (.tuple #[leV (tkL S.vl), .bool (isL S.vl)]) ∧ Below w.heap.size w w' := by
  obtain ⟨q, c, hI, hC⟩ := hW.cells
  obtain ⟨A, hAe, hB, hw⟩ := blk1 w (leC zL) 29
  obtain ⟨-, -, -, -, y4, -⟩ := hC A hw
  clear hC
  go_enter Try.func21, Try.ntmps21
  go_upto_region 1 with fail
  clear hAe
  go_wp2_with fail
  refine (ttake_any _ S.vl _ (hI.keep hw)).mono ?_
  rintro e W1 ⟨rfl, b1⟩
  have hB1 := hB.keep b1
  obtain ⟨x, hx⟩ : ∃ x, tkL S.vl = x := ⟨_, rfl⟩
  rw [hx]
  go_wp2_with (refine st_le rfl rfl (k1 := x) hB1 rfl rfl ?_; intro W5 hB5 C5)
  exact bodyPost_ret (results_c2 rfl _ _ _ 29 _ (0, 0) _ (.bool (isL S.vl)) rfl rfl hB5 Try.underlying29 rfl (info_le x)) rfl ⟨ret_le ⟨rfl, hx⟩, ab_chg (ab_trans hw b1) C5 (Nat.le_refl _)⟩
set_option maxHeartbeats 1000000 in
theorem tlease_nil (w : World) : Calls Try.prog 21 #[.pointer none] w fun e w' => e = .returned (.tuple #[leV zL, .bool false]) ∧ Below w.heap.size w w' := by
  obtain ⟨A, hAe, hB, hw⟩ := blk1 w (leC zL) 29
  go_enter Try.func21, Try.ntmps21
  go_upto_region 1 with fail
  clear hAe
  go_wp2_with (refine st_le rfl rfl (k1 := zL) hB rfl rfl ?_; intro W5 hB5 C5)
  exact bodyPost_ret (results_c2 rfl _ _ _ 29 _ (0, 0) _ (.bool false) rfl rfl hB5 Try.underlying29 rfl (info_le zL)) rfl ⟨rfl, ab_chg hw C5 (Nat.le_refl _)⟩
theorem neWho (a b c d : Int) (w : World) : (binOp .neq 73 (.agg #[.int .i64 a, .int .i64 b]) (.agg #[.int .i64 c, .int .i64 d])).run Try.prog w = .ok (.bool (!(decide (c = a) && decide (d = b)))) w := by
  by_cases h1 : c = a
  · by_cases h2 : d = b
    · simp [go_sem, h1, h2]
    · have : ¬ b = d := fun e => h2 e.symm
      simp [go_sem, h1, h2, this]
  · have : ¬ a = c := fun e => h1 e.symm
    simp [go_sem, h1, this]
theorem ret_ld {n m : Int} {b c : Bool} (h : b = c ∧ n = m) : Ending.returned (.tuple #[.int .i64 m, .bool c]) = .returned (.tuple #[.int .i64 n, .bool b]) := by rw [h.1, h.2]
set_option maxHeartbeats 4000000 in
theorem tleads_any (base b : Nat) (S : Wt) (w : World) (hW : Wh w base b S) : Calls Try.prog 20 #[wptr b] w fun e w' => e = .returned (.tuple #[.int .i64 (ldN S), .bool (ldB S)]) ∧ Below w.heap.size w w' := by
  go_enter Try.func20, Try.ntmps20
  go_wp2_with fail
  refine (tlease_any base b S _ hW).mono ?_
  rintro e W1 ⟨rfl, b1⟩
  obtain ⟨A, hAe, hB, hw⟩ := blk1 W1 (leC zL) 29
  obtain ⟨x, hx⟩ : ∃ x, tkL S.vl = x := ⟨_, rfl⟩
  rw [hx]
  have hw1 := ab_trans b1 hw
  go_upto_region 2 with (refine st_le rfl rfl (k1 := x) hB rfl rfl ?_; intro W5 hB5 C5)
  have hw5 := ab_chg hw1 C5 b1.size
  obtain ⟨q, c, -, hC⟩ := hW.cells
  obtain ⟨y0, y1, -, -, -, -⟩ := hC W5 hw5
  clear hC hAe hB C5 hw hw1
  have z0 : W5.cell? ⟨W1.heap.size, 0, none⟩ = some (.int .i64 x.e) := hB5.at rfl
  have z1 : W5.cell? ⟨W1.heap.size, 1, none⟩ = some (.int .i64 x.h) := hB5.at rfl
  have z2 : W5.cell? ⟨W1.heap.size, 2, none⟩ = some (.int .i64 x.l) := hB5.at rfl
  cases hl : isL S.vl
  · have HN : Hid (ldB S = false ∧ ldN S = 0) := by
      have h1 : ldB S = false := by unfold ldB; rw [hl]; rfl
      exact ⟨h1, by unfold ldN; rw [h1]; rfl⟩
    clear hl hx
    go_quiet (fail)
    go_wp2_with fail
    go_ret2
    exact ⟨ret_ld HN.out, ab_drewN hw5 _⟩
  · have HB : ldB S = (decide (x.h = S.nd) && decide (x.l = S.lf)) := by unfold ldB; rw [hl, hx]; rfl
    have E1 := neWho S.nd S.lf x.h x.l
    cases hd : (decide (x.h = S.nd) && decide (x.l = S.lf))
    · rw [hd] at E1 HB
      have HN : Hid (ldB S = false ∧ ldN S = 0) := ⟨HB, by unfold ldN; rw [HB]; rfl⟩
      clear hl hx hd HB
      go_quiet (fail)
      go_wp2_with fail
      go_ret2
      exact ⟨ret_ld HN.out, ab_drewN hw5 _⟩
    · rw [hd] at E1 HB
      have HN : Hid (ldB S = true ∧ ldN S = x.e) := ⟨HB, by unfold ldN; rw [HB, hx]; rfl⟩
      clear hl hx hd HB
      go_quiet (fail)
      go_wp2_with fail
      go_ret2
      exact ⟨ret_ld HN.out, ab_drewN hw5 _⟩
set_option maxHeartbeats 1000000 in
theorem tleads_nil (w : World) : Calls Try.prog 20 #[.pointer none] w fun e w' => e = .returned (.tuple #[.int .i64 0, .bool false]) ∧ Below w.heap.size w w' := by
  go_enter Try.func20, Try.ntmps20
  go_wp2_with fail
  refine (tlease_nil _).mono ?_
  rintro e W1 ⟨rfl, b1⟩
  obtain ⟨A, hAe, hB, hw⟩ := blk1 W1 (leC zL) 29
  have hw1 := ab_trans b1 hw
  go_upto_region 2 with (refine st_le rfl rfl (k1 := zL) hB rfl rfl ?_; intro W5 hB5 C5)
  have hw5 := ab_chg hw1 C5 b1.size
  clear hAe hB C5 hw hw1
  go_quiet (fail)
  go_wp2_with fail
  go_ret2
  exact ⟨rfl, ab_drewN hw5 _⟩
set_option maxHeartbeats 1000000 in
theorem tsaw_any (base b : Nat) (S : Wt) (v : Value) (l : List Int) (w : World) (hW : Wh w base b S) (hv : Is w v l) (hl : l.length ≤ 100000) :
    Calls Try.prog 17 #[wptr b, v] w fun e w' => e = .returned (.tuple #[]) ∧ Wh w' base b (sawW S l) ∧ Frm (fun k => k = b) w w' := by
  obtain ⟨q, c, hB, hO⟩ := hW.mem
  have y3 : w.cell? ⟨b, 3, none⟩ = some (.bool S.sn) := hB.at rfl
  have y4 : w.cell? ⟨b, 4, none⟩ = some (.slice q S.vl.length c) := hB.at rfl
  obtain ⟨qv, cv, e⟩ := hv.form
  subst e
  obtain ⟨n, hn⟩ : ∃ n, l.length = n := ⟨_, rfl⟩
  rw [hn] at hv hl ⊢
  go_enter Try.func17, Try.ntmps17
  cases hs : S.sn
  · rw [hs] at y3
    have HS : Hid (sawW S l = { S with sn := true, vl := l, ag := 0 }) := by show sawW S l = _; unfold sawW; rw [hs]; rfl
    go_upto_region 1 with fail
    clear y3 y4 hs
    have hX := hB
    have hvX := hv
    have hwX := Below.refl w.heap.size w
    have hlt := hX.lt
    go_wp2_with (refine app_i w rfl rfl (l := []) (m := l) rfl (own_nil _ _) rfl hvX hn (by omega) (Below.refl _ _) ?_; intro v' W2 hown hnil b2 hg hat; obtain ⟨q2, c2, e2⟩ := (io_of hown).is.form; rw [List.nil_append] at e2; subst e2; have f3 := (hX.keep b2).frozen 3; have f4 := (hX.keep b2).frozen 4; have f5 := (hX.keep b2).frozen 5; have hlt2 := b2.size; have p3 : W2.cell? ⟨b, 3, none⟩ = some (.bool S.sn) := (hX.keep b2).at rfl; have p4 : W2.cell? ⟨b, 4, none⟩ = some (.slice q S.vl.length c) := (hX.keep b2).at rfl; have p5 : W2.cell? ⟨b, 5, none⟩ = some (.int .i64 S.ag) := (hX.keep b2).at rfl; clear hnil hat hg; go_frame)
    go_end0
    subst hn
    have hB2 := hX.keep b2
    have HB5 := ((hB2.set 3 (.bool true)).set 4 (.slice q2 l.length c2)).set 5 (.int .i64 0)
    have C5 := ((chg_set W2 b 3 (.bool true)).trans (chg_set _ b 4 (.slice q2 l.length c2))).trans (chg_set _ b 5 (.int .i64 0))
    have hO2 : Io W2 w.heap.size (.slice q2 l.length c2) l := io_of (l := l) hown
    rw [HS.out]
    refine ⟨rfl, ⟨⟨q2, c2, HB5, own_chgT (hO2.less (Nat.le_trans hW.ge (Nat.le_of_lt hlt))) C5 (fun e => absurd (hB2.kindR.uniq (own_kindR hO2 e)) (by decide))⟩, by dsimp only; omega, hW.ge, by dsimp only; omega⟩, ?_⟩
    exact (frm_below (ab_trans hwX b2)).trans (frm_chg C5 rfl)
  · rw [hs] at y3
    go_wp2_with fail
    refine (gsame_any _ _ l S.vl _ hv hO.is).mono ?_
    rintro e W1 ⟨rfl, b1⟩
    by_cases he : l = S.vl
    · have HS : Hid (sawW S l = S) := by show sawW S l = _; unfold sawW; rw [hs, decide_eq_true he]; rfl
      rw [decide_eq_true he]
      clear he y3 y4 hs
      go_wp2_with fail
      refine bodyPost_ret (results_none rfl _ _ _) rfl ?_
      rw [HS.out]
      exact ⟨rfl, hW.keep b1, frm_below b1⟩
    have HS : Hid (sawW S l = { S with sn := true, vl := l, ag := 0 }) := by show sawW S l = _; unfold sawW; rw [decide_eq_false he, Bool.and_false]; rfl
    rw [decide_eq_false he]
    clear he
    go_upto_region 1 with fail
    clear y3 y4 hs
    have hX := hB.keep b1
    have hvX := hv.keep b1
    have hwX := b1
    have hlt := hX.lt
    go_wp2_with (refine app_i W1 rfl rfl (l := []) (m := l) rfl (own_nil _ _) rfl hvX hn (by omega) (Below.refl _ _) ?_; intro v' W2 hown hnil b2 hg hat; obtain ⟨q2, c2, e2⟩ := (io_of hown).is.form; rw [List.nil_append] at e2; subst e2; have f3 := (hX.keep b2).frozen 3; have f4 := (hX.keep b2).frozen 4; have f5 := (hX.keep b2).frozen 5; have hlt2 := b2.size; have p3 : W2.cell? ⟨b, 3, none⟩ = some (.bool S.sn) := (hX.keep b2).at rfl; have p4 : W2.cell? ⟨b, 4, none⟩ = some (.slice q S.vl.length c) := (hX.keep b2).at rfl; have p5 : W2.cell? ⟨b, 5, none⟩ = some (.int .i64 S.ag) := (hX.keep b2).at rfl; clear hnil hat hg; go_frame)
    go_end0
    subst hn
    have hB2 := hX.keep b2
    have HB5 := ((hB2.set 3 (.bool true)).set 4 (.slice q2 l.length c2)).set 5 (.int .i64 0)
    have C5 := ((chg_set W2 b 3 (.bool true)).trans (chg_set _ b 4 (.slice q2 l.length c2))).trans (chg_set _ b 5 (.int .i64 0))
    have hO2 : Io W2 W1.heap.size (.slice q2 l.length c2) l := io_of (l := l) hown
    rw [HS.out]
    refine ⟨rfl, ⟨⟨q2, c2, HB5, own_chgT (hO2.less (Nat.le_trans hW.ge (Nat.le_of_lt hlt))) C5 (fun e => absurd (hB2.kindR.uniq (own_kindR hO2 e)) (by decide))⟩, by dsimp only; omega, hW.ge, by dsimp only; omega⟩, ?_⟩
    exact (frm_below (ab_trans hwX b2)).trans (frm_chg C5 rfl)
theorem tsaw_nil (v : Value) (w : World) : Calls Try.prog 17 #[.pointer none, v] w fun e w' => e = .returned (.tuple #[]) ∧ w' = w := by
  go_enter Try.func17, Try.ntmps17
  go_wp2_with fail
  refine bodyPost_ret (results_none rfl _ _ _) rfl ?_
  exact ⟨rfl, rfl⟩
end Go.Proofs.Ytddpdmolknfjaaa
