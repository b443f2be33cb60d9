/-
  What the document's Less returns at every two wide numbers.
-/
import Derived.Test.YtahpnkdofnnolaaWalk8
namespace Go.Proofs.Ytahpnkdofnnolaa
open Go.RowKit
set_option linter.unusedVariables false

theorem P_bd (f : Nat → Int) (h : Byt f) : ∀ k, k ≤ 16 → 0 ≤ P f k ∧ P f k < (256 : Int) ^ k
  | 0, _ => by simp [P]
  | k + 1, hk => by
    have ih := P_bd f h k (by omega)
    have b := h k (by omega)
    have hp : 0 < (256 : Int) ^ k := by rw [← pow_cast]; have := Nat.pow_pos (n := k) (show 0 < 256 by omega); omega
    have b1 := Int.mul_nonneg b.1 (Int.le_of_lt hp)
    have b2 := Int.mul_le_mul_of_nonneg_right b.2 (Int.le_of_lt hp)
    rw [P, Int.pow_succ]; omega
theorem P_same (f g : Nat → Int) (p : Nat) : ∀ k, p ≤ k → (∀ j, p ≤ j → j < k → f j = g j) → P f k - P g k = P f p - P g p
  | 0, h, _ => by obtain rfl : p = 0 := by omega
                  rfl
  | k + 1, h, e => by
    by_cases c : p = k + 1
    · subst c; rfl
    · rw [P, P, e k (by omega) (by omega)]
      have := P_same f g p k (by omega) (fun j h1 h2 => e j h1 (by omega))
      omega
theorem P_less (f g : Nat → Int) (hf : Byt f) (hg : Byt g) (q : Nat) (hq : q < 16) (e : ∀ j, q + 1 ≤ j → j < 16 → f j = g j) (ne : f q ≠ g q) : (f q < g q) ↔ (P f 16 < P g 16) := by
  have s := P_same f g (q + 1) 16 (by omega) e
  have e1 : P f (q + 1) = P f q + f q * 256 ^ q := rfl
  have e2 : P g (q + 1) = P g q + g q * 256 ^ q := rfl
  rw [e1, e2] at s
  clear e1 e2
  have b1 := P_bd f hf q (by omega)
  have b2 := P_bd g hg q (by omega)
  have hp : 0 < (256 : Int) ^ q := by rw [← pow_cast]; have := Nat.pow_pos (n := q) (show 0 < 256 by omega); omega
  generalize (256 : Int) ^ q = M at *
  constructor
  · intro h
    have := Int.mul_le_mul_of_nonneg_right (show f q + 1 ≤ g q by omega) (Int.le_of_lt hp)
    rw [Int.add_mul] at this; omega
  · intro h
    by_cases c : f q < g q
    · exact c
    · exfalso
      have := Int.mul_le_mul_of_nonneg_right (show g q + 1 ≤ f q by omega) (Int.le_of_lt hp)
      rw [Int.add_mul] at this; omega
/-- The bytes of a wide number, its sign's bit turned: they rise with the number. -/
def sg (X : Nat) : Nat → Int := upd (fun i => ((X / 256 ^ i % 256 : Nat) : Int)) 15 ((((X / 256 ^ 15 % 256 : Nat) : Int) + 128) % 256)
theorem sg_byt (X : Nat) : Byt (sg X) := byt_upd (byt_bytes X) 15 _ (by omega)
theorem sg_P (A : Int) (X : Nat) (hX : (X : Int) = A % 340282366920938463463374607431768211456) (b : -170141183460469231731687303715884105728 ≤ A ∧ A < 170141183460469231731687303715884105728) :
    P (sg X) 16 = A + 170141183460469231731687303715884105728 := by
  unfold sg
  rw [P, P_upd _ _ 15 15 (Nat.le_refl _), P_bytes]
  have e : upd (fun i => ((X / 256 ^ i % 256 : Nat) : Int)) 15 ((((X / 256 ^ 15 % 256 : Nat) : Int) + 128) % 256) 15 = (((X / 256 ^ 15 % 256 : Nat) : Int) + 128) % 256 := by unfold upd; rw [if_pos rfl]
  rw [e]
  simp only [Int.reducePow, Nat.reducePow]
  omega

set_option maxHeartbeats 1000000 in
theorem rless_any (ah al bh bl : Int) (w : World) (h0 : -9223372036854775808 ≤ ah) (h1 : ah ≤ 9223372036854775807) (l0 : 0 ≤ al) (l1 : al ≤ 18446744073709551615)
    (k0 : -9223372036854775808 ≤ bh) (k1 : bh ≤ 9223372036854775807) (m0 : 0 ≤ bl) (m1 : bl ≤ 18446744073709551615) :
    Calls Try.prog 23 #[.agg #[.int .i64 ah, .int .u64 al], .agg #[.int .i64 bh, .int .u64 bl]] w fun e w' =>
      e = .returned (.bool (decide (wv ah al < wv bh bl))) ∧ Below w.heap.size w w' := by
  obtain ⟨X, hX⟩ : ∃ X : Nat, (X : Int) = wv ah al % 340282366920938463463374607431768211456 := ⟨(wv ah al % 340282366920938463463374607431768211456).toNat, by omega⟩
  obtain ⟨Y, hY⟩ : ∃ Y : Nat, (Y : Int) = wv bh bl % 340282366920938463463374607431768211456 := ⟨(wv bh bl % 340282366920938463463374607431768211456).toNat, by omega⟩
  have HXP : Hid (_ = _) := sg_P (wv ah al) X hX (wv_bd ah al h0 h1 l0 l1)
  have HYP : Hid (_ = _) := sg_P (wv bh bl) Y hY (wv_bd bh bl k0 k1 m0 m1)
  go_enter Try.func23, Try.ntmps23
  go_wp2_with fail
  refine (bytes_any _ _ _ h0 h1 l0 l1).mono ?_
  rintro e w1 ⟨v, rfl, hown, hb1⟩
  rw [← hX, Int.toNat_natCast] at hown
  obtain ⟨g, cap, rfl, hc, hm, hg, hrow⟩ := own16 hown
  obtain ⟨-, -, r0, r1, -, -, hz⟩ := blocks2 hb1
  have hbw : Below w.heap.size w w1 := ab_trans (ab_alloc (ab_alloc (Below.refl _ _) _) _) hb1
  have hg3 : w.heap.size + 1 < g := by simp at hg; omega
  clear hb1 hown hg
  go_wp2_with fail
  refine (bytes_any _ _ _ k0 k1 m0 m1).mono ?_
  rintro e w2 ⟨v, rfl, hown2, hb2⟩
  rw [← hY, Int.toNat_natCast] at hown2
  obtain ⟨g', cap', rfl, hc', hm', hg', hrow2⟩ := own16 hown2
  have hne : g ≠ g' := by have := hrow.1; omega
  have hgw : w.heap.size ≤ g' := by omega
  have hrow := hrow.keep hb2
  have hbw : Below w.heap.size w w2 := ab_trans hbw hb2
  clear hown2 hb2 hX hY hg' r0 r1 hz
  have c1 := hrow.2.1 15 (by omega)
  have c2 := hrow.2.2 15 (by omega)
  have c3 := hrow2.2.1 15 (by omega)
  have c4 := hrow2.2.2 15 (by omega)
  dsimp only at c1 c3
  have x1 : 0 ≤ ((X / 256 ^ 15 % 256 : Nat) : Int) ∧ ((X / 256 ^ 15 % 256 : Nat) : Int) ≤ 255 := by omega
  have x2 : 0 ≤ ((Y / 256 ^ 15 % 256 : Nat) : Int) ∧ ((Y / 256 ^ 15 % 256 : Nat) : Int) ≤ 255 := by omega
  have HR := hrow.set 15 (by omega) ((((X / 256 ^ 15 % 256 : Nat) : Int) + 128) % 256)
  have HR2 := (hrow2.other (Ne.symm hne) 15 (.int .i64 ((((X / 256 ^ 15 % 256 : Nat) : Int) + 128) % 256))).set 15 (by omega) ((((Y / 256 ^ 15 % 256 : Nat) : Int) + 128) % 256)
  have HR1 := HR.other hne 15 (.int .i64 ((((Y / 256 ^ 15 % 256 : Nat) : Int) + 128) % 256))
  change Row16 _ g (sg X) at HR1
  change Row16 _ g' (sg Y) at HR2
  have HW : Below w.heap.size w ((w2.setCell ⟨g, 15, none⟩ (.int .i64 ((((X / 256 ^ 15 % 256 : Nat) : Int) + 128) % 256))).setCell ⟨g', 15, none⟩ (.int .i64 ((((Y / 256 ^ 15 % 256 : Nat) : Int) + 128) % 256))) := ab_set (ab_set hbw (by dsimp only; omega) _) (by dsimp only; omega) _
  clear hrow hrow2 HR hbw
  generalize ((X / 256 ^ 15 % 256 : Nat) : Int) = xx at *
  generalize ((Y / 256 ^ 15 % 256 : Nat) : Int) = yy at *
  go_wp2_with fail
  clear c1 c2 c3 c4 x1 x2
  go_loopw [7] (fun i wr => ∃ k p : Nat, k + p = 16 ∧ i = .int .i64 ((p : Int) - 1) ∧ Row16 wr g (sg X) ∧ Row16 wr g' (sg Y) ∧ (∀ j, p ≤ j → j < 16 → sg X j = sg Y j) ∧ Below w.heap.size w wr) (fun i _ => (intOf i + 1).toNat)
  case atStart => exact ⟨0, 16, by omega, rfl, HR1, HR2, fun j h1 h2 => absurd h1 (by omega), HW⟩
  case round =>
    clear HR1 HR2 HW
    obtain ⟨k, p, hk, rfl, hrow, hrow2, heq, hbw⟩ := hrel
    by_cases c : p = 0
    · subst c
      have HF : Hid (false = decide (wv ah al < wv bh bl)) := by
        have e := P_congr (sg X) (sg Y) 16 (fun i hi => heq i (by omega) hi)
        rw [HXP.out, HYP.out] at e
        show _ = _; symm; rw [decide_eq_false_iff_not]; omega
      clear heq
      go_wp2_with fail
      go_ret
      exact ⟨ret_bool HF.out, hbw⟩
    · obtain ⟨q, rfl⟩ : ∃ q, p = q + 1 := ⟨p - 1, by omega⟩
      have c1 := hrow.2.1 q (by omega)
      have c2 := hrow2.2.1 q (by omega)
      have hq : (q : Int) < 16 := by omega
      by_cases ne : sg X q = sg Y q
      · have d1 : (sg X q != sg Y q) = false := by simp [ne]
        have HE : ∀ j, q ≤ j → j < 16 → sg X j = sg Y j := by
          intro j h1 h2
          by_cases e : j = q
          · subst e; exact ne
          · exact heq j (by omega) h2
        have HE' : Hid (∀ j, q ≤ j → j < 16 → sg X j = sg Y j) := HE
        clear heq ne HE
        go_wp2_with fail
        go_quiet (fail)
        have hd : Below wr.heap.size wr (wr.drewN nq) := ab_drewN (Below.refl _ _) nq
        have HR1 := hrow.keep hd
        have HR2 := hrow2.keep hd
        have HW := ab_trans hbw hd
        clear hrow hrow2 hbw
        go_wp2_with fail
        go_roundw
        case rel => exact ⟨k + 1, q, by omega, by go_num, HR1, HR2, HE'.out, HW⟩
        case measure => simp [intOf]
      · have d1 : (sg X q != sg Y q) = true := by simp [ne]
        have HF : Hid (decide (sg X q < sg Y q) = decide (wv ah al < wv bh bl)) := by
          have l := P_less (sg X) (sg Y) (sg_byt X) (sg_byt Y) q (by omega) heq ne
          rw [HXP.out, HYP.out] at l
          show _ = _; rw [decide_eq_decide, l]; omega
        clear heq ne
        go_wp2_with fail
        go_quiet (fail)
        go_wp2_with fail
        go_quiet (fail)
        go_wp2_with fail
        go_ret
        exact ⟨ret_bool HF.out, by repeat (first | exact hbw | refine ab_drewN ?_ _)⟩
end Go.Proofs.Ytahpnkdofnnolaa
