/-
  What the document's Add and Less return at every two wide numbers.
-/
import Derived.Test.YtnppdachbfcfkaaWalk8
namespace Go.Proofs.Ytnppdachbfcfkaa
open Go.RowKit
set_option linter.unusedVariables false

theorem wrap_add (A B : Int) (X Y : Nat) (V c : Int) (hX : (X : Int) = A % 340282366920938463463374607431768211456) (hY : (Y : Int) = B % 340282366920938463463374607431768211456) (h : V + c * 340282366920938463463374607431768211456 = (X : Int) + (Y : Int)) : wh V = wh (A + B) ∧ wl V = wl (A + B) := by
  rw [show A + B = V + 340282366920938463463374607431768211456 * (c + A / 340282366920938463463374607431768211456 + B / 340282366920938463463374607431768211456) by omega]
  have := wh_congr V (c + A / 340282366920938463463374607431768211456 + B / 340282366920938463463374607431768211456)
  exact ⟨this.1.symm, this.2.symm⟩

theorem slot_new (w : World) (T : TypeId) : Slot2 w.heap.size (w.alloc (.cells #[.int .i64 0, .int .u64 0] T)) :=
  ⟨by simp, by simp [go_sem], by simp [go_sem], by simp [go_sem], by simp [go_sem]⟩

set_option maxHeartbeats 1000000 in
theorem radd_any (ah al bh bl : Int) (w : World) (h0 : -9223372036854775808 ≤ ah) (h1 : ah ≤ 9223372036854775807) (l0 : 0 ≤ al) (l1 : al ≤ 18446744073709551615)
    (k0 : -9223372036854775808 ≤ bh) (k1 : bh ≤ 9223372036854775807) (m0 : 0 ≤ bl) (m1 : bl ≤ 18446744073709551615) :
    Calls Try.prog 24 #[.agg #[.int .i64 ah, .int .u64 al], .agg #[.int .i64 bh, .int .u64 bl]] w fun e w' =>
      e = .returned (.agg #[.int .i64 (wh (wv ah al + wv bh bl)), .int .u64 (wl (wv ah al + wv bh bl))]) ∧ Below w.heap.size w w' := by
  obtain ⟨X, hX⟩ : ∃ X : Nat, (X : Int) = wv ah al % 340282366920938463463374607431768211456 := ⟨(wv ah al % 340282366920938463463374607431768211456).toNat, by omega⟩
  obtain ⟨Y, hY⟩ : ∃ Y : Nat, (Y : Int) = wv bh bl % 340282366920938463463374607431768211456 := ⟨(wv bh bl % 340282366920938463463374607431768211456).toNat, by omega⟩
  go_enter Try.func24, Try.ntmps24
  go_wp2_with fail
  refine (bytes_any _ _ _ h0 h1 l0 l1).mono ?_
  rintro e w1 ⟨v, rfl, hown, hb1⟩
  rw [← hX, Int.toNat_natCast] at hown
  obtain ⟨g, cap, rfl, hc, hm, hg, hrow⟩ := own16 hown
  obtain ⟨hc1, hf1⟩ := bcell hb1
  have hz1 : w.heap.size + 1 + 1 < w1.heap.size := by have := hb1.size; simp at this; omega
  have hsl : Slot2 (w.heap.size + 1 + 1) w1 := by
    have := slot_new ((w.alloc (.cells #[.int .i64 ah, .int .u64 al] 26)).alloc (.cells #[.int .i64 bh, .int .u64 bl] 26)) 26
    have h2 := this.keep hb1
    simpa using h2
  have hbw : Below w.heap.size w w1 := ab_trans (ab_alloc (ab_alloc (ab_alloc (Below.refl _ _) _) _) _) hb1
  have hg3 : w.heap.size + 1 + 1 < g := by simp at hg; omega
  go_wp2_with fail
  refine (bytes_any _ _ _ k0 k1 m0 m1).mono ?_
  rintro e w2 ⟨v, rfl, hown2, hb2⟩
  rw [← hY, Int.toNat_natCast] at hown2
  obtain ⟨g', cap', rfl, hc', hm', hg', hrow2⟩ := own16 hown2
  have hne : g ≠ g' := by have := hrow.1; omega
  have hrow := hrow.keep hb2
  have hsl := hsl.keep hb2
  have hbw : Below w.heap.size w w2 := ab_trans hbw hb2
  have HX : Hid ((X : Int) = wv ah al % 340282366920938463463374607431768211456) := hX
  have HY : Hid ((Y : Int) = wv bh bl % 340282366920938463463374607431768211456) := hY
  clear hown hown2 hb1 hb2 hc1 hf1 hX hY hg hg' hz1
  go_wp2_with fail
  go_loopw [7, 8] (fun carry i wr => ∃ (k : Nat) (m : Int) (f : Nat → Int), k ≤ 16 ∧ i = .int .i64 (k : Int) ∧ carry = .int .i64 m ∧ 0 ≤ m ∧ m ≤ 255 ∧ Row16 wr g f ∧ Byt f ∧ Row16 wr g' (fun i => ((Y / 256 ^ i % 256 : Nat) : Int)) ∧ (∀ j, k ≤ j → f j = ((X / 256 ^ j % 256 : Nat) : Int)) ∧ P f k + m * (256 : Int) ^ k = ((X % 256 ^ k : Nat) : Int) + ((Y % 256 ^ k : Nat) : Int) ∧ Slot2 (w.heap.size + 1 + 1) wr ∧ Below w.heap.size w wr) (fun _ i _ => 16 - (intOf i).toNat)
  case atStart => exact ⟨0, 0, _, by omega, rfl, rfl, by omega, by omega, hrow, byt_bytes X, hrow2, fun j _ => rfl, by simp [P, Nat.mod_one], hsl, hbw⟩
  case round =>
    clear hrow hrow2 hsl hbw
    obtain ⟨k, m, f, hk, rfl, rfl, c0, c1, hrow, hby, hrow2, hrest, hP, hsl, hbw⟩ := hrel
    by_cases c : k < 16
    · obtain ⟨y, hy⟩ : ∃ y : Int, y = ((Y / 256 ^ k % 256 : Nat) : Int) := ⟨_, rfl⟩
      have HS : Hid (_ = _) := row_add X Y f k y m hP (hrest k (Nat.le_refl _)) hy
      have hbk := hby k c
      have hyk : 0 ≤ y ∧ y ≤ 255 := by omega
      have HB := byt_upd hby k ((f k + y + m) % 256) (by omega)
      have HE : ∀ j, k + 1 ≤ j → upd f k ((f k + y + m) % 256) j = ((X / 256 ^ j % 256 : Nat) : Int) := by
        intro j hj; unfold upd; rw [if_neg (by omega)]; exact hrest j (by omega)
      have HE := HE
      have c1 := hrow.2.1 k c
      have c2 := hrow.2.2 k c
      have c3 := hrow2.2.1 k c
      dsimp only at c3
      rw [← hy] at c3
      have c16 : (k : Int) < 16 := by omega
      clear hP hrest hby hy
      go_wp2_with fail
      go_quiet (fail)
      have hd : Below wr.heap.size wr (wr.drewN nq) := ab_drewN (Below.refl _ _) nq
      have HR := (hrow.keep hd).set k c ((f k + y + m) % 256)
      have HR2 := (hrow2.keep hd).other (Ne.symm hne) k (.int .i64 ((f k + y + m) % 256))
      have HL := (hsl.keep hd).other (show g ≠ w.heap.size + 1 + 1 by omega) k (.int .i64 ((f k + y + m) % 256))
      have HW : Below w.heap.size w ((wr.drewN nq).setCell ⟨g, k, none⟩ (.int .i64 ((f k + y + m) % 256))) := ab_set (ab_trans hbw hd) (by dsimp only; omega) _
      clear hrow hrow2 hsl hbw
      go_wp2_with fail
      go_roundw
      case rel => exact ⟨k + 1, _, _, by omega, by go_num, rfl, by omega, by omega, HR, HB, HR2, HE, HS.out, HL, HW⟩
      case measure => simp [intOf]; omega
    · obtain rfl : k = 16 := by omega
      have HF : Hid (wh (P f 16) = wh (wv ah al + wv bh bl) ∧ wl (P f 16) = wl (wv ah al + wv bh bl)) := by
        refine wrap_add (wv ah al) (wv bh bl) X Y (P f 16) m HX.out HY.out ?_
        have x1 : X % 256 ^ 16 = X := Nat.mod_eq_of_lt (by have := HX.out; omega)
        have x2 : Y % 256 ^ 16 = Y := Nat.mod_eq_of_lt (by have := HY.out; omega)
        rw [x1, x2] at hP
        simpa using hP
      clear hP hrest hrow2
      have hsl' := hsl
      obtain ⟨g1, r0, r1, f0, f1⟩ := hsl
      go_wp2_with fail
      refine (rwide_any g cap f _ hrow hby hc hm).mono ?_
      rintro e w3 ⟨rfl, hb3⟩
      rw [HF.out.1, HF.out.2]
      have hs2 := hsl'.keep hb3
      clear g1 r0 r1 f0 f1
      obtain ⟨g1, r0, r1, f0, f1⟩ := hs2
      go_wp2_with fail
      refine bodyPost_ret (v := .agg #[.int .i64 (wh (wv ah al + wv bh bl)), .int .u64 (wl (wv ah al + wv bh bl))]) (by simp [results, Try.results24, go_sem, r0, r1]) rfl ⟨rfl, ?_⟩
      exact ab_set (ab_set (ab_trans hbw hb3) (by dsimp only; omega) _) (by dsimp only; omega) _
end Go.Proofs.Ytnppdachbfcfkaa
