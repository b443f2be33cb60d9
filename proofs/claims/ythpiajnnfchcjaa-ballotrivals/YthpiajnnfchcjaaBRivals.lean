/-
  Where a majority of three registers promised a ballot, no majority accepts a lesser one: estuarylaw09.BallotRivals returns true for every input; no condition.
-/
import Derived.Test.YthpiajnnfchcjaaBlF
import Derived.Test.YthpiajnnfchcjaaFlat
import Derived.ProofKit
import Derived.OpenShut
import Derived.ChangeOld
import Derived.Below
namespace Go.Proofs.Ythpiajnnfchcjaa.ballotRivals
open Go.ChangeShapes Go.WideShapes Go.ChangeAt Go.RowKit Go.Joins
set_option linter.unusedVariables false
attribute [local go_sem] ok_foldB

/-- How many of three. -/
def cnt3 (m : Nat) : Nat := m % 2 + m / 2 % 2 + m / 4 % 2
theorem andT : bits .and .u64 0 1 = 0 ∧ bits .and .u64 1 1 = 1 ∧ bits .and .u64 2 1 = 0 ∧ bits .and .u64 3 1 = 1 ∧ bits .and .u64 4 1 = 0 ∧ bits .and .u64 5 1 = 1 ∧ bits .and .u64 6 1 = 0 ∧ bits .and .u64 7 1 = 1 := by decide +kernel
theorem count_any (m : Nat) (hm : m < 8) (w : World) : Calls Try.prog 37 #[.int .u64 (m : Int)] w fun e w' => e = .returned (.int .i64 (cnt3 m : Nat)) ∧ w' = w := by
  obtain ⟨k0, k1, k2, k3, k4, k5, k6, k7⟩ := andT
  have h : m = 0 ∨ m = 1 ∨ m = 2 ∨ m = 3 ∨ m = 4 ∨ m = 5 ∨ m = 6 ∨ m = 7 := by omega
  rcases h with rfl | rfl | rfl | rfl | rfl | rfl | rfl | rfl
  all_goals
    go_enter Try.func37, Try.ntmps37
    go_wp2_with fail
    go_ret
    exact ⟨rfl, rfl⟩
def bt (x i : Nat) : Bool := decide (x / 2 ^ i % 2 = 1)
/-- How many of the first k accept. -/
def sofar (x y : Nat) : Nat → Nat
  | 0 => 0
  | k + 1 => sofar x y k + (if bt y k && !bt x k then 1 else 0)
theorem sofar_le (x y : Nat) : ∀ k, sofar x y k ≤ k
  | 0 => Nat.le_refl _
  | k + 1 => by
    have := sofar_le x y k
    unfold sofar
    split <;> omega
theorem and1 (u : Nat) (h : u < 18446744073709551616) : bits .and .u64 (u : Int) 1 = ((u % 2 : Nat) : Int) := by
  show IntKind.u64.wrap ((BitVec.ofInt 64 (u : Int) &&& BitVec.ofInt 64 1).toNat : Int) = _
  have e1 : (BitVec.ofInt 64 1).toNat = 2 ^ 1 - 1 := by decide
  have e2 := ofInt_nat (u : Int)
  rw [BitVec.toNat_and, e1, Nat.and_two_pow_sub_one_eq_mod, IntKind.wrap_u64]
  omega
theorem bt_bit (x k : Nat) (hx : x < 8) : (bits .and .u64 ((x : Int) / 2 ^ k) 1 == 1) = bt x k := by
  have e : ((x : Int) / 2 ^ k) = ((x / 2 ^ k : Nat) : Int) := by simp
  have hlt : x / 2 ^ k < 18446744073709551616 := Nat.lt_of_le_of_lt (Nat.div_le_self _ _) (by omega)
  rw [e, and1 _ hlt]
  unfold bt
  rw [Bool.eq_iff_iff, beq_iff_eq, decide_eq_true_iff]
  omega
theorem sofar_few : ∀ x, x < 8 → ∀ y, y < 8 → 2 ≤ cnt3 x → sofar x y 3 < 2 := by decide +kernel
theorem mod8 (f : Int) : ∃ x : Nat, (IntKind.u64.wrap f).tmod 8 = (x : Int) ∧ x < 8 := by
  have h : 0 ≤ IntKind.u64.wrap f := by rw [IntKind.wrap_u64]; omega
  rw [Int.tmod_eq_emod_of_nonneg h]
  exact ⟨((IntKind.u64.wrap f) % 8).toNat, by omega, by omega⟩
theorem as_of {b : Bt} (h0 : 0 ≤ b.n) (h1 : 0 ≤ b.nd) (h2 : 0 ≤ b.lf) (h : noB b = false) : asB b = true := by
  unfold asB whB
  rw [h, decide_eq_true ⟨h0, h1, h2⟩]
  rfl
theorem lt_zero {b : Bt} (h : asB b = true) : lt3 zB b = true ∧ lt3 b zB = false := by
  unfold asB at h
  rw [Bool.and_eq_true, Bool.not_eq_true'] at h
  obtain ⟨h1, h2⟩ := h
  have h1 := of_decide_eq_true h1
  have h2 := of_decide_eq_false h2
  unfold lt3 zB
  exact ⟨decide_eq_true (by dsimp only; omega), decide_eq_false (by dsimp only; omega)⟩
theorem gd_zero : gdR zR = true := by decide +kernel
theorem gd_prom {b : Bt} (h : asB b = true) : gdR ⟨b, zB, []⟩ = true := by
  have h2 := (lt_zero h).2
  unfold asB at h
  rw [Bool.and_eq_true] at h
  show (whB b && (whB zB && (!lt3 b zB && (if noB zB then decide (([] : List Int).length = 0) else decide (([] : List Int).length ≤ 32))))) = true
  rw [h.1, h2]
  decide +kernel
theorem high_as {l h : Bt} (h0 : 0 ≤ l.n) (h1 : 0 ≤ l.nd) (h2 : 0 ≤ l.lf) (hl : lt3 l h = true) (h3 : 0 ≤ h.nd) (h4 : 0 ≤ h.lf) : asB h = true := by
  have hl := of_decide_eq_true hl
  refine as_of (by omega) h3 h4 ?_
  unfold noB
  exact decide_eq_false (by omega)
theorem Is.chgN {W W' : World} {v : Value} (h : Is W v []) : Is W' v [] := by
  obtain ⟨q, cap, g, off, e, h1, h2, h3, h4, h5⟩ := h
  exact ⟨q, cap, g, off, e, h1, h2, h3, fun h => absurd h (by simp), fun j x h => by simp at h⟩
theorem neB0 (w : World) : (binOp .eql 35 (Err 11) .nilIface).run Try.prog w = .ok (.bool false) w := by kernel_rfl
theorem neN0 (w : World) : (binOp .neq 35 .nilIface .nilIface).run Try.prog w = .ok (.bool false) w := by kernel_rfl
theorem pr_high {h : Bt} (ha : asB h = true) : prN zR h = 0 := prN_ok (by rw [gd_zero, ha]; rfl) (lt_zero ha).1
theorem ac_low {l : Bt} (hl : asB l = true) : acN zR l [1] = 0 := acN_ok (by rw [gd_zero, hl]; rfl) (lt_zero hl).2
theorem ac_stale {l h : Bt} (ha : asB h = true) (hl : asB l = true) (h3 : lt3 l h = true) : acN ⟨h, zB, []⟩ l [1] = 11 := acN_stale (by rw [gd_prom ha, hl]; rfl) h3
set_option maxHeartbeats 4000000 in
theorem holds_any (l h : Bt) (f s : Int) (w : World) (f0 : -9223372036854775808 ≤ f ∧ f ≤ 9223372036854775807) (s0 : -9223372036854775808 ≤ s ∧ s ≤ 9223372036854775807) :
    Calls Try.prog 28 #[bV l, bV h, .int .i64 f, .int .i64 s] w fun e w' => e = .returned (.bool true) ∧ Below w.heap.size w w' := by
  go_enter Try.func28, Try.ntmps28
  go_upto_region 1 with fail
  obtain ⟨A, hAe, hP, hQ, hw⟩ := blk2 w (bC l) (bC h) 23 23
  rw [hAe]
  clear hAe
  go_upto_region 3 with (go_at_call 11; refine (alive9_any _).mono ?_; rintro e W1 ⟨rfl, hb⟩)
  have hP1 := hP.keep hb
  have hQ1 := hQ.keep hb
  have hw1 := ab_trans hw hb
  clear hP hQ hw hb
  obtain ⟨x0, x1, x2⟩ := cells3 hP1
  obtain ⟨x3, x4, x5⟩ := cells3 hQ1
  have hbv := Below.refl W1.heap.size W1
  by_cases c0 : 0 ≤ l.n
  rotate_left
  · go_wp2_with fail
    go_ret
    exact ⟨rfl, hw1⟩
  by_cases c1 : 0 ≤ l.nd
  rotate_left
  · go_wp2_with fail
    go_ret
    exact ⟨rfl, hw1⟩
  by_cases c2 : 0 ≤ l.lf
  rotate_left
  · go_wp2_with fail
    go_ret
    exact ⟨rfl, hw1⟩
  cases c3 : lt3 l h
  · go_wp2_with fail
    refine (rbless_any l h _).mono ?_
    rintro e W2 ⟨rfl, b2⟩
    rw [c3]
    have hbv := ab_trans hbv b2
    go_wp2_with fail
    go_ret
    exact ⟨rfl, ab_trans hw1 hbv⟩
  by_cases c4 : 0 ≤ h.nd
  rotate_left
  · go_wp2_with fail
    refine (rbless_any l h _).mono ?_
    rintro e W2 ⟨rfl, b2⟩
    rw [c3]
    have hbv := ab_trans hbv b2
    go_wp2_with fail
    go_ret
    exact ⟨rfl, ab_trans hw1 hbv⟩
  by_cases c5 : 0 ≤ h.lf
  rotate_left
  · go_wp2_with fail
    refine (rbless_any l h _).mono ?_
    rintro e W2 ⟨rfl, b2⟩
    rw [c3]
    have hbv := ab_trans hbv b2
    go_wp2_with fail
    go_ret
    exact ⟨rfl, ab_trans hw1 hbv⟩
  have HQ := and3 l.n l.nd l.lf
  cases c6 : noB l
  rotate_left
  · rw [c6] at HQ
    go_wp2_with fail
    refine (rbless_any l h _).mono ?_
    rintro e W2 ⟨rfl, b2⟩
    rw [c3]
    have hbv := ab_trans hbv b2
    go_wp2_with fail
    go_ret
    exact ⟨rfl, ab_trans hw1 hbv⟩
  rw [c6] at HQ
  have HA : Hid (asB h = true) := high_as c0 c1 c2 c3 c4 c5
  have HB : Hid (asB l = true) := as_of c0 c1 c2 c6
  go_wp2_with fail
  refine (rbless_any l h _).mono ?_
  rintro e W2 ⟨rfl, b2⟩
  rw [c3]
  have hbv := ab_trans hbv b2
  go_upto_region 5 with fail
  have hP2 := hP1.keep hbv
  have hQ2 := hQ1.keep hbv
  have hw2 := ab_trans hw1 hbv
  clear x0 x1 x2 x3 x4 x5 c0 c1 c2 c4 c5 HQ b2 hP1 hQ1 hw1 hbv
  go_upto_region 7 with fail
  obtain ⟨x, hx, hx8⟩ := mod8 f
  obtain ⟨y, hy, hy8⟩ := mod8 s
  rw [hx, hy]
  have HF : Hid (2 ≤ cnt3 x → sofar x y 3 < 2) := sofar_few x hx8 y hy8
  clear hx hy
  obtain ⟨m, hm⟩ : ∃ m, cnt3 x = m := ⟨_, rfl⟩
  obtain ⟨n, hn⟩ : ∃ n, cnt3 y = n := ⟨_, rfl⟩
  go_wp2_with fail
  refine (count_any x hx8 _).mono ?_
  rintro e W3 ⟨rfl, rfl⟩
  rw [hm]
  by_cases c7 : m < 2
  · have c8 : ((m : Nat) : Int) < 2 := by omega
    go_wp2_with fail
    go_ret
    exact ⟨rfl, hw2⟩
  · have c7' : ¬ ((m : Nat) : Int) < 2 := by omega
    go_wp2_with fail
    refine (count_any y hy8 _).mono ?_
    rintro e W4 ⟨rfl, rfl⟩
    rw [hn]
    by_cases c9 : n < 2
    · have c8 : ((n : Nat) : Int) < 2 := by omega
      go_wp2_with fail
      go_ret
      exact ⟨rfl, hw2⟩
    · have c8 : ¬ ((n : Nat) : Int) < 2 := by omega
      have HF : Hid (sofar x y 3 < 2) := HF.out (by omega)
      go_upto_region 9 with fail
      clear c7 c7' c9 c8 hm hn
      go_wp2_with fail
      obtain ⟨x0, x1, x2⟩ := cells3 hP2
      obtain ⟨x3, x4, x5⟩ := cells3 hQ2
      go_loopw [12, 13] (fun acc i wr => ∃ k : Nat, k ≤ 3 ∧ i = .int .u64 (k : Int) ∧ acc = .int .i64 ((sofar x y k : Nat) : Int) ∧ Below W4.heap.size W4 wr) (fun _ i _ => 3 - (intOf i).toNat)
      case atStart => exact ⟨0, by omega, rfl, rfl, Below.refl _ _⟩
      case round =>
        obtain ⟨k, hk, rfl, rfl, hb⟩ := hrel
        by_cases c7 : k = 3
        · subst c7
          have h2 : ((sofar x y 3 : Nat) : Int) < 2 := by have := HF.out; omega
          go_wp2_with fail
          go_ret
          exact ⟨rfl, ab_trans hw2 hb⟩
        · have hk3 : (k : Int) < 3 := by omega
          have hb' := hb
          go_upto_region 14 with fail
          obtain ⟨V, hE, hR, bV'⟩ := blk1 wr (rC zB zB (.slice none 0 0)) 31
          rw [show wr.alloc (.cells #[.int .i64 0, .int .i64 0, .int .i64 0, .int .i64 0, .int .i64 0, .int .i64 0, .slice none 0 0] 31) = V from hE]
          clear hE
          have hbv := ab_trans hb bV'
          have hwv := ab_trans hw2 hbv
          have hlv : wr.heap.size < V.heap.size := hR.lt
          have HGW : Hid (W4.heap.size ≤ wr.heap.size) := hb.size
          have HGR : Hid (w.heap.size + 1 < wr.heap.size) := Nat.lt_of_lt_of_le hQ2.lt hb.size
          generalize wr.heap.size = gr at *
          have HX := bt_bit x k hx8
          have HY := bt_bit y k hy8
          obtain ⟨y0, y1, y2, y3, y4, y5, y6⟩ := cells7 hR
          have hbw := Below.refl V.heap.size V
          have HS : Hid (sofar x y (k + 1) = sofar x y k + (if bt y k && !bt x k then 1 else 0)) := rfl
          have E1 := neB0
          have E2 := neN0
          have HK : Hid (sofar x y k ≤ 3) := by have := sofar_le x y k; show _ ≤ _; omega
          generalize hsk : sofar x y k = sk at *
          have hs3 : (sk : Int) ≤ 3 := by have := HK.out; omega
          cases e1 : bt x k
          · rw [e1] at HX HS
            cases e2 : bt y k
            · rw [e2] at HY HS
              have HS' : Hid (sofar x y (k + 1) = sk) := HS.out
              clear HS
              go_wp2_with fail
              exact ⟨⟨k + 1, by omega, rfl, by rw [HS'.out], hbv⟩, by simp only [intOf]; omega⟩
            · rw [e2] at HY HS
              have HS' : Hid (sofar x y (k + 1) = sk + 1) := HS.out
              clear HS
              go_upto_region 21 with (first
                | (refine bs_own rfl rfl [1] (by simp only [List.map_toArray, List.map_cons, List.map_nil]; rfl) (isl1 _ _) rfl (by decide) ?_; intro W5 hN5 b5 z5; clear z5)
                | (go_at_call 15; refine (accept_ok zR l [1] _ _ _ (Is.nil _) (own_is hN5) (ac_low HB.out)).mono ?_; rintro e W6 ⟨q6, c6', rfl, -, b6⟩))
              have hb6 := ab_trans hbv (ab_trans b5 b6)
              have hb7 := ab_alloc hb6 (.cells (rC l l (.slice q6 1 c6')) 31)
              have E3 := eqN0
              clear y0 y1 y2 y3 y4 y5 y6 x0 x1 x2 x3 x4 x5
              go_wp2_with fail
              exact ⟨⟨k + 1, by omega, rfl, by rw [HS'.out]; rfl, hb7⟩, by simp only [intOf]; omega⟩
          · rw [e1] at HX HS
            go_upto_region 16 with (go_at_call 13; refine (prepare_ok zR h _ _ (Is.nil _) (pr_high HA.out)).mono ?_; rintro e W5 ⟨q5, c5, rfl, hO5, b5⟩)
            obtain ⟨V6, hE, hR6, b6⟩ := blk1 W5 (rC h zR.a (.slice q5 zR.l.length c5)) 31
            rw [hE]
            clear hE
            have hR7 := hR.keep (ab_trans b5 b6)
            have hb7 := ab_trans hbv (ab_trans b5 b6)
            have hI7 := hO5.is.keep b6
            have hgr : w.heap.size + 1 < gr := HGR.out
            have hlt5 : gr < W5.heap.size := Nat.lt_of_lt_of_le hlv b5.size
            clear y0 y1 y2 y3 y4 y5 y6 x0 x1 x2 x3 x4 x5 hO5 b5 b6 hbv hwv hR hlv
            generalize W5.heap.size = g6 at *
            obtain ⟨y0, y1, y2, y3, y4, y5, y6⟩ := cells7 hR6
            have hb8 := Below.refl V6.heap.size V6
            go_upto_region 19 with (refine st_rg rfl rfl (p1 := h) (a1 := zR.a) hR7 rfl rfl ?_; intro W7 hR8 C7)
            have hb9 := hb7.trans (C7.below HGW.out)
            have hP9 := hP2.keep hb9
            have hI9 : Is W7 (.slice q5 zR.l.length c5) [] := Is.chgN hI7
            clear y0 y1 y2 y3 y4 y5 y6 hb8 hI7
            obtain ⟨y0, y1, y2, y3, y4, y5, y6⟩ := cells7 hR8
            obtain ⟨x0, x1, x2⟩ := cells3 hP9
            have hb8 := Below.refl W7.heap.size W7
            cases e2 : bt y k
            · rw [e2] at HY HS
              have HS' : Hid (sofar x y (k + 1) = sk) := HS.out
              clear HS
              go_wp2_with fail
              exact ⟨⟨k + 1, by omega, rfl, by rw [HS'.out], hb9⟩, by simp only [intOf]; omega⟩
            · rw [e2] at HY HS
              have HS' : Hid (sofar x y (k + 1) = sk) := HS.out
              clear HS
              go_upto_region 21 with (first
                | (refine bs_own rfl rfl [1] (by simp only [List.map_toArray, List.map_cons, List.map_nil]; rfl) (isl1 _ _) rfl (by decide) ?_; intro W8 hN8 b8 z8; clear z8; have hb8 := b8)
                | (go_at_call 15; refine (accept_no ⟨h, zR.a, zR.l⟩ l [1] _ _ _ 11 (hI9.keep b8) (own_is hN8) (ac_stale HA.out HB.out c3) (by decide)).mono ?_; rintro e W9 ⟨q9, c9, rfl, -, b9⟩))
              have hb10 := ab_trans hb9 (ab_trans b8 b9)
              have hb11 := ab_alloc hb10 (.cells (rC zB zB (.slice q9 0 c9)) 31)
              clear y0 y1 y2 y3 y4 y5 y6 x0 x1 x2 hb8
              go_wp2_with fail
              exact ⟨⟨k + 1, by omega, rfl, by rw [HS'.out], hb11⟩, by simp only [intOf]; omega⟩
set_option maxHeartbeats 1000000 in
theorem walk (c : Nat → Int) (hc : ∀ j, j < 8 → (Lit.int ((fun _ => IntKind.i64) j) (c j)).wf = true) (w : World) :
    Calls Try.prog 7 #[.agg ((List.range 8).map fun j => Value.int ((fun _ => IntKind.i64) j) (c j)).toArray] w fun e w' => e = .returned (.bool true) ∧ Below w.heap.size w w' := by
  have u6 := bounds_i64 (hc 6 (by omega))
  have u7 := bounds_i64 (hc 7 (by omega))
  show Calls Try.prog 7 #[.agg #[.int .i64 (c 0), .int .i64 (c 1), .int .i64 (c 2), .int .i64 (c 3), .int .i64 (c 4), .int .i64 (c 5), .int .i64 (c 6), .int .i64 (c 7)]] w _
  generalize c 0 = a0 at *
  generalize c 1 = a1 at *
  generalize c 2 = a2 at *
  generalize c 3 = a3 at *
  generalize c 4 = a4 at *
  generalize c 5 = a5 at *
  generalize c 6 = a6 at *
  generalize c 7 = a7 at *
  clear hc
  go_enter Try.func7, Try.ntmps7
  go_wp2_with (go_at_call 28; refine (holds_any ⟨a0, a1, a2⟩ ⟨a3, a4, a5⟩ a6 a7 _ u6 u7).mono ?_; rintro e W2 ⟨rfl, b2⟩)
  go_ret
  exact ⟨rfl, ab_trans (ab_alloc (Below.refl _ _) _) b2⟩
theorem own : ownKnob Try.prog.godebug = none := by kernel_rfl
theorem laidOut : laidOutB Try.prog = true := by kernel_rfl

set_option maxRecDepth 100000 in
theorem lifted (os : Os) (started : os.Started) (H : Type) (enc : TypeId × Value → H) :
    ReturnsInHanded {} Try.checked os 7 .any (Rows.ballotRivalsSpec.pre6 enc Try.prog Try.f7 Rows.ballotRivalsRow.domain false) (Rows.ballotRivalsSpec.post enc Try.prog Try.f7 false true false false) := by
  refine returnsInHanded_of_change (C := Try.checked) own started (by kernel_rfl) Try.func7
    (ChangeSpec.witness6 (enc := enc) (C := Try.checked) false ⟨#[], #[.agg #[.int .i64 0, .int .i64 0, .int .i64 0, .int .i64 0, .int .i64 0, .int .i64 0, .int .i64 0, .int .i64 0]], []⟩ 8 (by kernel_rfl) (by kernel_rfl) (by kernel_rfl) (by kernel_rfl)) ?_
  intro W base args ds gs before hval0 hW hcnd _
  have hval : ∀ (j : Nat) t v, Try.f7.params[j]? = some t → args[j]? = some v → Value.okWide Try.prog W .any base t v := hval0
  have hW' := hW
  obtain ⟨p, q, hA0, hV, rfl, hfz, hnd⟩ := hW
  have hA : DataW.TrodAll enc Try.prog W 0 (fun _ => true) true Try.f7.params.toList args.toList ds p := hA0
  rw [Try.params7] at hA hval
  obtain ⟨v0, vs0, d0, ds0, p0, q0, hargs, rfl, rfl, h0, r0⟩ := trodAll_cons hA
  obtain ⟨rfl, rfl, rfl⟩ := trodAll_nil r0
  obtain rfl : args = #[v0] := by cases args; simp_all
  obtain ⟨rfl, rfl⟩ := trodVars_none hV
  have k0 := h0
  have lt0 : ∀ x ∈ p0, x.block < W.heap.size := by obtain ⟨m, hm⟩ := k0; exact DataW.trod_lt m _ _ _ hm
  obtain ⟨c0, rfl, hw0⟩ := open_flat (n := 8) (D := 8) (fun _ => .i64) Try.underlying58 rfl (by kernel_rfl) (kinds_of (by kernel_rfl)) (hval 0 58 v0 rfl rfl) h0
  clear hA0 hval0
  refine (walk c0 hw0 W).mono fun e W' ⟨he, bel⟩ => ?_
  subst he
  exact ⟨_, rfl, _, _, _, [], _, [], hW', trodAll_mk1 (shut_bool Try.underlying4 _), (trodAll_cons_mk (Below.trod laidOut (by kernel_rfl) (of_decide_eq_true (by kernel_rfl)) k0 bel lt0) trodAll_mk0), rfl, bel.frame _, fun h => by cases h⟩

theorem over : Rows.ballotRivalsRow.holds Try.pinned (OpenSpec.ofChange Rows.ballotRivalsSpec) :=
  OpenClaim.holds_of_wide 7 Try.f7 rfl rfl rfl rfl rfl rfl rfl ⟨rfl, rfl, rfl, rfl, rfl⟩ rfl rfl rfl rfl rfl (by kernel_rfl) Try.func7 (by kernel_rfl)
    (of_decide_eq_true (by kernel_rfl)) (by unfold Func.isWrapper; first | (rw [if_pos (by decide +kernel)]; kernel_rfl) | (rw [if_neg (by decide +kernel)]; exact ⟨rfl, rfl⟩))
    (fun os started H enc _ => lifted os started H enc)

theorem proved : Rows.BallotRivalsSaid := over
end Go.Proofs.Ythpiajnnfchcjaa.ballotRivals
namespace Go.Proofs.Ythpiajnnfchcjaa
theorem ballotRivals_holds : Rows.BallotRivalsSaid := ballotRivals.proved
#print axioms ballotRivals_holds
end Go.Proofs.Ythpiajnnfchcjaa
