/-
  What the document's Neg returns at every wide number.
-/
import Derived.Test.YtahpnkdofnnolabWalk8
namespace Go.Proofs.Ytahpnkdofnnolab
open Go.RowKit
set_option linter.unusedVariables false

def ng (X k : Nat) : Nat → Int := fun i => if i < k then 255 - ((X / 256 ^ i % 256 : Nat) : Int) else ((X / 256 ^ i % 256 : Nat) : Int)
theorem ng_zero (X : Nat) : ng X 0 = fun i => ((X / 256 ^ i % 256 : Nat) : Int) := by
  funext i; unfold ng; rw [if_neg (by omega)]
theorem ng_succ (X k : Nat) : upd (ng X k) k (255 - ng X k k) = ng X (k + 1) := by
  funext i; unfold upd ng
  by_cases c : i = k
  · subst c; rw [if_pos rfl, if_neg (by omega), if_pos (by omega)]
  · rw [if_neg c]
    by_cases d : i < k
    · rw [if_pos d, if_pos (by omega)]
    · rw [if_neg d, if_neg (by omega)]
theorem ng_byt (X k : Nat) : Byt (ng X k) := by
  intro i hi; unfold ng; split <;> omega
theorem ng_P (X : Nat) : ∀ k, P (fun i => 255 - ((X / 256 ^ i % 256 : Nat) : Int)) k = (256 : Int) ^ k - 1 - ((X % 256 ^ k : Nat) : Int)
  | 0 => by simp [P, Nat.mod_one]
  | k + 1 => by
    rw [P, ng_P X k, mod_step, Int.pow_succ, Int.sub_mul]; omega
theorem ng_all (X : Nat) (hX : X < 340282366920938463463374607431768211456) : P (ng X 16) 16 = 340282366920938463463374607431768211455 - X := by
  rw [P_congr (ng X 16) (fun i => 255 - ((X / 256 ^ i % 256 : Nat) : Int)) 16 (fun i hi => by unfold ng; rw [if_pos hi]), ng_P]
  have e : X % 256 ^ 16 = X := Nat.mod_eq_of_lt (by omega)
  rw [e]; simp only [Int.reducePow]; omega
theorem neg_mod (A : Int) (X : Nat) (hX : (X : Int) = A % 340282366920938463463374607431768211456) :
    wh (wv (wh (340282366920938463463374607431768211455 - (X : Int))) (wl (340282366920938463463374607431768211455 - (X : Int))) * 1 + 1) = wh (- A) ∧ wl (wv (wh (340282366920938463463374607431768211455 - (X : Int))) (wl (340282366920938463463374607431768211455 - (X : Int))) * 1 + 1) = wl (- A) := by
  obtain ⟨k, h⟩ := wv_back (340282366920938463463374607431768211455 - (X : Int))
  rw [h, show (340282366920938463463374607431768211455 - (X : Int) + 340282366920938463463374607431768211456 * k) * 1 + 1 = - A + 340282366920938463463374607431768211456 * (k + 1 + A / 340282366920938463463374607431768211456) by omega]
  exact wh_congr _ _

set_option maxHeartbeats 1000000 in
theorem rneg_any (ah al : Int) (w : World) (h0 : -9223372036854775808 ≤ ah) (h1 : ah ≤ 9223372036854775807) (l0 : 0 ≤ al) (l1 : al ≤ 18446744073709551615) :
    Calls Try.prog 22 #[.agg #[.int .i64 ah, .int .u64 al]] w fun e w' =>
      e = .returned (.agg #[.int .i64 (wh (- wv ah al)), .int .u64 (wl (- wv ah al))]) ∧ Below w.heap.size w w' := by
  obtain ⟨X, hX⟩ : ∃ X : Nat, (X : Int) = wv ah al % 340282366920938463463374607431768211456 := ⟨(wv ah al % 340282366920938463463374607431768211456).toNat, by omega⟩
  go_enter Try.func22, Try.ntmps22
  go_wp2_with fail
  refine (bytes_any _ _ _ h0 h1 l0 l1).mono ?_
  rintro e w1 ⟨v, rfl, hown, hb1⟩
  rw [← hX, Int.toNat_natCast] at hown
  obtain ⟨g, cap, rfl, hc, hm, hg, hrow⟩ := own16 hown
  go_wp2_with fail
  have hsl : Slot2 (w.heap.size + 1) w1 := by
    obtain ⟨-, -, r0, r1, f0, f1, hz⟩ := blocks2 hb1
    exact ⟨hz, r0, r1, f0, f1⟩
  have hg2 : w.heap.size + 2 ≤ g := by simpa using hg
  have hbw : Below w.heap.size w w1 := ab_trans (ab_alloc (ab_alloc (Below.refl _ _) _) _) hb1
  have HX : Hid ((X : Int) = wv ah al % 340282366920938463463374607431768211456) := hX
  clear hown hb1 hg hX
  rw [← ng_zero] at hrow
  go_loopw [4] (fun i wr => ∃ k : Nat, k ≤ 16 ∧ i = .int .i64 (k : Int) ∧ Row16 wr g (ng X k) ∧ Slot2 (w.heap.size + 1) wr ∧ Below w.heap.size w wr) (fun i _ => 16 - (intOf i).toNat)
  case atStart => exact ⟨0, by omega, rfl, hrow, hsl, hbw⟩
  case round =>
    clear hrow hsl hbw
    obtain ⟨k, hk, rfl, hrow, hsl, hbw⟩ := hrel
    by_cases c : k < 16
    · have hbk := ng_byt X k k c
      have HR := hrow.set k c (255 - ng X k k)
      rw [ng_succ] at HR
      have HL := hsl.other (show g ≠ w.heap.size + 1 by omega) k (.int .i64 (255 - ng X k k))
      have HW : Below w.heap.size w (wr.setCell ⟨g, k, none⟩ (.int .i64 (255 - ng X k k))) := ab_set hbw (by dsimp only; omega) _
      have c1 := hrow.2.1 k c
      have c2 := hrow.2.2 k c
      clear hrow hsl hbw
      go_wp2_with fail
      go_roundw
      case rel => exact ⟨k + 1, by omega, by go_num, HR, HL, HW⟩
      case measure => simp [intOf]; omega
    · obtain rfl : k = 16 := by omega
      have HF : Hid (P (ng X 16) 16 = 340282366920938463463374607431768211455 - (X : Int)) := ng_all X (by have := HX.out; omega)
      have HG : Hid (_ ∧ _) := neg_mod (wv ah al) X HX.out
      have hsl' := hsl
      obtain ⟨g1, r0, r1, f0, f1⟩ := hsl
      go_wp2_with fail
      refine (rwide_any g cap (ng X 16) _ hrow (ng_byt X 16) hc hm).mono ?_
      rintro e w2 ⟨rfl, hb2⟩
      rw [HF.out]
      have hs2 := hsl'.keep hb2
      clear g1 r0 r1 f0 f1
      have hs2' := hs2
      obtain ⟨g1, r0, r1, f0, f1⟩ := hs2
      go_wp2_with fail
      refine (rtimes_any _ _ 1 1 _ (wh_bd _).1 (wh_bd _).2 (wl_bd _).1 (wl_bd _).2 (by omega) (by omega)).mono ?_
      rintro e w3 ⟨rfl, hb3⟩
      rw [HG.out.1, HG.out.2]
      have hs3 := hs2'.keep hb3
      clear g1 r0 r1 f0 f1
      obtain ⟨g1, r0, r1, f0, f1⟩ := hs3
      go_wp2_with fail
      refine bodyPost_ret (v := .agg #[.int .i64 (wh (- wv ah al)), .int .u64 (wl (- wv ah al))]) (by simp [results, Try.results22, go_sem, r0, r1]) rfl ⟨rfl, ?_⟩
      exact ab_set (ab_set (ab_trans (ab_trans hbw hb2) hb3) (by dsimp only; omega) _) (by dsimp only; omega) _
end Go.Proofs.Ytahpnkdofnnolab
