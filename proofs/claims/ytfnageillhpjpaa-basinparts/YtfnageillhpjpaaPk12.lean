/-
  What the document's own calls on wide numbers return: Wide, times, Neg.
  What the document's Add and Less return at every two wide numbers.
-/
import Derived.Test.YtfnageillhpjpaaPk10
import Derived.Test.YtfnageillhpjpaaPk03
namespace Go.Proofs.Ytfnageillhpjpaa
set_option maxRecDepth 100000
open Go.RowKit
set_option linter.unusedVariables false

theorem Row16.keep {w w' : World} {g : Nat} {f : Nat → Int} (h : Row16 w g f) (hb : Below w.heap.size w w') : Row16 w' g f :=
  ⟨Nat.lt_of_lt_of_le h.1 hb.size, fun i hi => by rw [hb.cell (p := ⟨g, i, none⟩) h.1]; exact h.2.1 i hi, fun i hi => by rw [hb.frozen (p := ⟨g, i, none⟩) h.1]; exact h.2.2 i hi⟩
theorem Row16.set {w : World} {g : Nat} {f : Nat → Int} (h : Row16 w g f) (p : Nat) (hp : p < 16) (v : Int) : Row16 (w.setCell ⟨g, p, none⟩ (.int .i64 v)) g (upd f p v) := by
  refine ⟨by simpa using h.1, ?_, fun i hi => by simpa using h.2.2 i hi⟩
  intro i hi
  unfold upd
  by_cases c : i = p
  · subst c; rw [if_pos rfl]; exact World.cell?_setCell_same _ _ _ (h.2.1 i hi)
  · rw [if_neg c, World.cell?_setCell_other _ _ _ _ (by intro e; have := congrArg Addr.off e; dsimp only at this; omega)]; exact h.2.1 i hi
theorem Row16.other {w : World} {g g' : Nat} {f : Nat → Int} (h : Row16 w g f) (hg : g ≠ g') (p : Nat) (v : Value) : Row16 (w.setCell ⟨g', p, none⟩ v) g f := by
  refine ⟨by simpa using h.1, ?_, fun i hi => by simpa using h.2.2 i hi⟩
  intro i hi
  rw [World.cell?_setCell_other _ _ _ _ (by intro e; have := congrArg Addr.block e; dsimp only at this; omega)]; exact h.2.1 i hi
def ByW (f : Nat → Int) : Prop := ∀ i, i < 16 → 0 ≤ f i ∧ f i ≤ 255

theorem pow_bd {y : Int} {k : Nat} (h : 0 ≤ y ∧ y < 256 ^ k) (hk : k ≤ 7) : 0 ≤ y ∧ y ≤ 72057594037927935 := by
  have : (256 : Nat) ^ k ≤ 256 ^ 7 := Nat.pow_le_pow_right (by omega) hk
  rw [← pow_cast] at h
  omega

set_option maxHeartbeats 1000000 in
theorem rwide_any (g cap : Nat) (f : Nat → Int) (w : World) (hr : Row16 w g f) (hf : ByW f) (hc : 16 ≤ cap) (hm : cap ≤ maxLen) :
    Calls Try.prog 45 #[.slice (some ⟨g, 0, none⟩) 16 cap] w fun e w' => e = .returned (.agg #[.int .i64 (wh (P f 16)), .int .u64 (wl (P f 16))]) ∧ Below w.heap.size w w' := by
  have b7 := hor_bd f 7 hf (by omega)
  have b15 := hor_bd f 15 hf (by omega)
  go_enter Try.func45, Try.ntmps45
  go_wp2_with fail
  have hr2 : Row16 (w.alloc (.cells #[.int .i64 0, .int .u64 0] 49)) g f := hr.keep (ab_alloc (Below.refl _ _) _)
  have HF := hor_P f
  go_loop [3, 4, 5] (fun lo hi i => ∃ k p : Nat, k + p = 8 ∧ i = .int .i64 ((p : Int) - 1) ∧ lo = .int .u64 (hor f 7 k) ∧ hi = .int .u64 (hor f 15 k)) (fun _ _ i => (intOf i + 1).toNat)
  case atStart => exact ⟨0, 8, by omega, rfl, rfl, rfl⟩
  case round =>
    obtain ⟨k, p, hk, rfl, rfl, rfl⟩ := hrel
    by_cases c : p = 0
    · subst c
      obtain rfl : k = 8 := by omega
      have HG : Hid (wrap64 (hor f 15 8) = wh (P f 16) ∧ hor f 7 8 = wl (P f 16)) := by
        have x1 := b7 8; have x2 := b15 8
        show _ ∧ _; rw [← HF]; unfold wh wl wrap64; simp only [Int.reducePow] at x1 x2; omega
      have x1 := (b7 8).1; have x2 := (b15 8).1
      clear b7 b15 HF hr2
      go_wp2_with fail
      exact bodyPost_ret (v := .agg #[.int .i64 (wrap64 (hor f 15 8)), .int .u64 (hor f 7 8)]) (by simp [results, Try.results45, go_sem]) rfl ⟨by rw [HG.out.1, HG.out.2], (Below.refl _ _).alloc (Nat.le_refl _) _⟩
    · obtain ⟨q, rfl⟩ : ∃ q, p = q + 1 := ⟨p - 1, by omega⟩
      have c1 := hr2.2.1 q (by omega)
      have c2 := hr2.2.1 (8 + q) (by omega)
      have hq : (q : Int) ≤ 7 := by omega
      have f1 := hf q (by omega)
      have f2 := hf (8 + q) (by omega)
      have y1 := pow_bd (b7 k) (show k ≤ 7 by omega)
      have y2 := pow_bd (b15 k) (show k ≤ 7 by omega)
      have HN1 : Hid (hor f 7 k * 256 + f q = hor f 7 (k + 1)) := by show _ = _; rw [hor, show 7 - k = q by omega]
      have HN2 : Hid (hor f 15 k * 256 + f (8 + q) = hor f 15 (k + 1)) := by show _ = _; rw [hor, show 15 - k = 8 + q by omega]
      clear b7 b15 HF hr2
      go_wp2_with fail
      go_round
      case rel => exact ⟨k + 1, q, by omega, by go_num, congrArg _ HN1.out, congrArg _ HN2.out⟩
      case measure => simp [intOf]

theorem byt_bytes (X : Nat) : ByW (fun i => ((X / 256 ^ i % 256 : Nat) : Int)) := by
  intro i hi; dsimp only; omega
theorem byt_upd {f : Nat → Int} (h : ByW f) (p : Nat) (v : Int) (hv : 0 ≤ v ∧ v ≤ 255) : ByW (upd f p v) := by
  intro i hi; unfold upd; split
  · exact hv
  · exact h i hi

/-- A result's box that nothing was laid into yet. -/
def Slot2 (b : Nat) (w : World) : Prop := b < w.heap.size ∧ w.cell? ⟨b, 0, none⟩ = some (.int .i64 0) ∧ w.cell? ⟨b, 1, none⟩ = some (.int .u64 0) ∧ w.frozen? ⟨b, 0, none⟩ = false ∧ w.frozen? ⟨b, 1, none⟩ = false
theorem Slot2.keep {b : Nat} {w w' : World} (h : Slot2 b w) (hb : Below w.heap.size w w') : Slot2 b w' := by
  obtain ⟨h1, h2, h3, h4, h5⟩ := h
  refine ⟨Nat.lt_of_lt_of_le h1 hb.size, ?_, ?_, ?_, ?_⟩
  · rw [hb.cell (p := ⟨b, 0, none⟩) h1]; exact h2
  · rw [hb.cell (p := ⟨b, 1, none⟩) h1]; exact h3
  · rw [hb.frozen (p := ⟨b, 0, none⟩) h1]; exact h4
  · rw [hb.frozen (p := ⟨b, 1, none⟩) h1]; exact h5
theorem Slot2.other {b g : Nat} {w : World} (h : Slot2 b w) (hg : g ≠ b) (p : Nat) (v : Value) : Slot2 b (w.setCell ⟨g, p, none⟩ v) := by
  obtain ⟨h1, h2, h3, h4, h5⟩ := h
  refine ⟨by simpa using h1, ?_, ?_, by simpa using h4, by simpa using h5⟩
  · rw [World.cell?_setCell_other _ _ _ _ (by intro e; have := congrArg Addr.block e; dsimp only at this; omega)]; exact h2
  · rw [World.cell?_setCell_other _ _ _ _ (by intro e; have := congrArg Addr.block e; dsimp only at this; omega)]; exact h3
theorem prod_bd {x b : Int} (hx : 0 ≤ x ∧ x ≤ 255) (hb : 0 ≤ b ∧ b ≤ 10) : 0 ≤ x * b ∧ x * b ≤ 2550 :=
  ⟨Int.mul_nonneg hx.1 hb.1, by have := Int.mul_le_mul hx.2 hb.2 hb.1 (by omega); omega⟩
theorem wrap_times (A : Int) (X : Nat) (V m b s : Int) (hX : (X : Int) = A % 340282366920938463463374607431768211456) (h : V + m * 340282366920938463463374607431768211456 = (X : Int) * b + s) : wh V = wh (A * b + s) ∧ wl V = wl (A * b + s) := by
  have e : A = X + 340282366920938463463374607431768211456 * (A / 340282366920938463463374607431768211456) := by omega
  generalize A / 340282366920938463463374607431768211456 = q at e
  subst e
  rw [Int.add_mul, show (X : Int) * b + 340282366920938463463374607431768211456 * q * b + s = V + 340282366920938463463374607431768211456 * (m + q * b) by rw [Int.mul_add, Int.mul_assoc]; omega]
  have := wh_congr V (m + q * b)
  exact ⟨this.1.symm, this.2.symm⟩

end Go.Proofs.Ytfnageillhpjpaa
namespace Go.Proofs.Ytfnageillhpjpaa
set_option maxRecDepth 100000
open Go.RowKit
set_option linter.unusedVariables false

theorem wrap_add (A B : Int) (X Y : Nat) (V c : Int) (hX : (X : Int) = A % 340282366920938463463374607431768211456) (hY : (Y : Int) = B % 340282366920938463463374607431768211456) (h : V + c * 340282366920938463463374607431768211456 = (X : Int) + (Y : Int)) : wh V = wh (A + B) ∧ wl V = wl (A + B) := by
  rw [show A + B = V + 340282366920938463463374607431768211456 * (c + A / 340282366920938463463374607431768211456 + B / 340282366920938463463374607431768211456) by omega]
  have := wh_congr V (c + A / 340282366920938463463374607431768211456 + B / 340282366920938463463374607431768211456)
  exact ⟨this.1.symm, this.2.symm⟩

theorem slot_new (w : World) (T : TypeId) : Slot2 w.heap.size (w.alloc (.cells #[.int .i64 0, .int .u64 0] T)) :=
  ⟨by simp, by simp [go_sem], by simp [go_sem], by simp [go_sem], by simp [go_sem]⟩

set_option maxHeartbeats 1000000 in
theorem radd_any (ah al bh bl : Int) (w : World) (h0 : -9223372036854775808 ≤ ah) (h1 : ah ≤ 9223372036854775807) (l0 : 0 ≤ al) (l1 : al ≤ 18446744073709551615)
    (k0 : -9223372036854775808 ≤ bh) (k1 : bh ≤ 9223372036854775807) (m0 : 0 ≤ bl) (m1 : bl ≤ 18446744073709551615) :
    Calls Try.prog 31 #[.agg #[.int .i64 ah, .int .u64 al], .agg #[.int .i64 bh, .int .u64 bl]] w fun e w' =>
      e = .returned (.agg #[.int .i64 (wh (wv ah al + wv bh bl)), .int .u64 (wl (wv ah al + wv bh bl))]) ∧ Below w.heap.size w w' := by
  obtain ⟨X, hX⟩ : ∃ X : Nat, (X : Int) = wv ah al % 340282366920938463463374607431768211456 := ⟨(wv ah al % 340282366920938463463374607431768211456).toNat, by omega⟩
  obtain ⟨Y, hY⟩ : ∃ Y : Nat, (Y : Int) = wv bh bl % 340282366920938463463374607431768211456 := ⟨(wv bh bl % 340282366920938463463374607431768211456).toNat, by omega⟩
  go_enter Try.func31, Try.ntmps31
  go_wp2_with fail
  refine (bytes_any _ _ _ h0 h1 l0 l1).mono ?_
  rintro e w1 ⟨v, rfl, hown, hb1⟩
  rw [← hX, Int.toNat_natCast] at hown
  obtain ⟨g, cap, rfl, hc, hm, hg, hrow⟩ := own16 hown
  obtain ⟨hc1, hf1⟩ := bcell hb1
  have hz1 : w.heap.size + 1 + 1 < w1.heap.size := by have := hb1.size; simp at this; omega
  have hsl : Slot2 (w.heap.size + 1 + 1) w1 := by
    have := slot_new ((w.alloc (.cells #[.int .i64 ah, .int .u64 al] 49)).alloc (.cells #[.int .i64 bh, .int .u64 bl] 49)) 49
    have h2 := this.keep hb1
    simpa using h2
  have hbw : Below w.heap.size w w1 := ab_trans (ab_alloc (ab_alloc (ab_alloc (Below.refl _ _) _) _) _) hb1
  have hg3 : w.heap.size + 1 + 1 < g := by simp at hg; omega
  go_wp2_with fail
  refine (bytes_any _ _ _ k0 k1 m0 m1).mono ?_
  rintro e w2 ⟨v, rfl, hown2, hb2⟩
  rw [← hY, Int.toNat_natCast] at hown2
  obtain ⟨g', cap', rfl, hc', hm', hg', hrow2⟩ := own16 hown2
  have hne : g ≠ g' := by have := hrow.1; omega
  have hrow := hrow.keep hb2
  have hsl := hsl.keep hb2
  have hbw : Below w.heap.size w w2 := ab_trans hbw hb2
  have HX : Hid ((X : Int) = wv ah al % 340282366920938463463374607431768211456) := hX
  have HY : Hid ((Y : Int) = wv bh bl % 340282366920938463463374607431768211456) := hY
  clear hown hown2 hb1 hb2 hc1 hf1 hX hY hg hg' hz1
  go_wp2_with fail
  go_loopw [7, 8] (fun carry i wr => ∃ (k : Nat) (m : Int) (f : Nat → Int), k ≤ 16 ∧ i = .int .i64 (k : Int) ∧ carry = .int .i64 m ∧ 0 ≤ m ∧ m ≤ 255 ∧ Row16 wr g f ∧ ByW f ∧ Row16 wr g' (fun i => ((Y / 256 ^ i % 256 : Nat) : Int)) ∧ (∀ j, k ≤ j → f j = ((X / 256 ^ j % 256 : Nat) : Int)) ∧ P f k + m * (256 : Int) ^ k = ((X % 256 ^ k : Nat) : Int) + ((Y % 256 ^ k : Nat) : Int) ∧ Slot2 (w.heap.size + 1 + 1) wr ∧ Below w.heap.size w wr) (fun _ i _ => 16 - (intOf i).toNat)
  case atStart => exact ⟨0, 0, _, by omega, rfl, rfl, by omega, by omega, hrow, byt_bytes X, hrow2, fun j _ => rfl, by simp [P, Nat.mod_one], hsl, hbw⟩
  case round =>
    clear hrow hrow2 hsl hbw
    obtain ⟨k, m, f, hk, rfl, rfl, c0, c1, hrow, hby, hrow2, hrest, hP, hsl, hbw⟩ := hrel
    by_cases c : k < 16
    · obtain ⟨y, hy⟩ : ∃ y : Int, y = ((Y / 256 ^ k % 256 : Nat) : Int) := ⟨_, rfl⟩
      have HS : Hid (_ = _) := row_add X Y f k y m hP (hrest k (Nat.le_refl _)) hy
      have hbk := hby k c
      have hyk : 0 ≤ y ∧ y ≤ 255 := by omega
      have HB := byt_upd hby k ((f k + y + m) % 256) (by omega)
      have HE : ∀ j, k + 1 ≤ j → upd f k ((f k + y + m) % 256) j = ((X / 256 ^ j % 256 : Nat) : Int) := by
        intro j hj; unfold upd; rw [if_neg (by omega)]; exact hrest j (by omega)
      have HE := HE
      have c1 := hrow.2.1 k c
      have c2 := hrow.2.2 k c
      have c3 := hrow2.2.1 k c
      dsimp only at c3
      rw [← hy] at c3
      have c16 : (k : Int) < 16 := by omega
      clear hP hrest hby hy
      go_wp2_with fail
      go_quiet (fail)
      have hd : Below wr.heap.size wr (wr.drewN nq) := ab_drewN (Below.refl _ _) nq
      have HR := (hrow.keep hd).set k c ((f k + y + m) % 256)
      have HR2 := (hrow2.keep hd).other (Ne.symm hne) k (.int .i64 ((f k + y + m) % 256))
      have HL := (hsl.keep hd).other (show g ≠ w.heap.size + 1 + 1 by omega) k (.int .i64 ((f k + y + m) % 256))
      have HW : Below w.heap.size w ((wr.drewN nq).setCell ⟨g, k, none⟩ (.int .i64 ((f k + y + m) % 256))) := ab_set (ab_trans hbw hd) (by dsimp only; omega) _
      clear hrow hrow2 hsl hbw
      go_wp2_with fail
      go_roundw
      case rel => exact ⟨k + 1, _, _, by omega, by go_num, rfl, by omega, by omega, HR, HB, HR2, HE, HS.out, HL, HW⟩
      case measure => simp [intOf]; omega
    · obtain rfl : k = 16 := by omega
      have HF : Hid (wh (P f 16) = wh (wv ah al + wv bh bl) ∧ wl (P f 16) = wl (wv ah al + wv bh bl)) := by
        refine wrap_add (wv ah al) (wv bh bl) X Y (P f 16) m HX.out HY.out ?_
        have x1 : X % 256 ^ 16 = X := Nat.mod_eq_of_lt (by have := HX.out; omega)
        have x2 : Y % 256 ^ 16 = Y := Nat.mod_eq_of_lt (by have := HY.out; omega)
        rw [x1, x2] at hP
        simpa using hP
      clear hP hrest hrow2
      have hsl' := hsl
      obtain ⟨g1, r0, r1, f0, f1⟩ := hsl
      go_wp2_with fail
      refine (rwide_any g cap f _ hrow hby hc hm).mono ?_
      rintro e w3 ⟨rfl, hb3⟩
      rw [HF.out.1, HF.out.2]
      have hs2 := hsl'.keep hb3
      clear g1 r0 r1 f0 f1
      obtain ⟨g1, r0, r1, f0, f1⟩ := hs2
      go_wp2_with fail
      refine bodyPost_ret (v := .agg #[.int .i64 (wh (wv ah al + wv bh bl)), .int .u64 (wl (wv ah al + wv bh bl))]) (by simp [results, Try.results31, go_sem, r0, r1]) rfl ⟨rfl, ?_⟩
      exact ab_set (ab_set (ab_trans hbw hb3) (by dsimp only; omega) _) (by dsimp only; omega) _
end Go.Proofs.Ytfnageillhpjpaa
