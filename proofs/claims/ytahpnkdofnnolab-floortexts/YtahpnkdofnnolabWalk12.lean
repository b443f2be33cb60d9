/-
  What the document's Text returns at every wide number.
-/
import Derived.Test.YtahpnkdofnnolabWalk9
import Derived.Test.YtahpnkdofnnolabPlain5
import Derived.Lib.SmallJoins
namespace Go.Proofs.Ytahpnkdofnnolab
open Go.RowKit
set_option linter.unusedVariables false

theorem conv_one (W : World) (x : Int) : (convert 43 9 (.slice (some ⟨W.heap.size, 0, none⟩) 1 1)).run Try.prog (W.alloc (.cells #[.int .u8 x] 5)) = .ok (.string (strOfNums [x])) (W.alloc (.cells #[.int .u8 x] 5)) :=
  run_convert_bytes_arg (P := Try.prog) _ 43 5 Try.underlying43 Try.underlying5 W.heap.size 0 1 1 [x] rfl
    (fun i hi => by obtain rfl : i = 0 := by omega
                    simp [go_sem]) 9 Try.underlying9

theorem ba_ext {a b : ByteArray} (h : a.data.toList = b.data.toList) : a = b := by
  obtain ⟨⟨l⟩⟩ := a; obtain ⟨⟨m⟩⟩ := b
  have : l = m := h
  rw [this]
theorem next_list (N j : Nat) (r : Int) (S : ByteArray) (hS : S.data.toList = toB (dl N j)) (hr : r = ((N / 10 ^ j % 10 : Nat) : Int)) : (strOfNums [48 + r] ++ S).data.toList = toB (dl N (j + 1)) := by
  rw [Joins.data_append, hS, dl_cons, hr]; rfl
theorem next_size (r : Int) (S : ByteArray) : (strOfNums [48 + r] ++ S).size = S.size + 1 := by
  have h1 : ∀ b : ByteArray, b.size = b.data.toList.length := fun b => by rw [Array.length_toList]; rfl
  rw [h1, Joins.data_append, List.length_append, ← h1 S]
  have : (strOfNums [48 + r]).data.toList.length = 1 := rfl
  omega
theorem whole_pos (N j : Nat) (r : Int) (S : ByteArray) (hS : S.data.toList = toB (dl N j)) (hr : r = ((N / 10 ^ j % 10 : Nat) : Int)) (h : N / 10 ^ (j + 1) = 0) (g : j = 0 ∨ N / 10 ^ j ≠ 0) (hj : j ≤ 38) :
    (⟨#[]⟩ ++ (strOfNums [48 + r] ++ S) : ByteArray) = strOfNums (textOf (N : Int)) := by
  apply ba_ext
  rw [Joins.data_append, next_list N j r S hS hr, text_end_pos N j h g hj]; rfl
theorem whole_neg (N j : Nat) (r : Int) (S : ByteArray) (hS : S.data.toList = toB (dl N j)) (hr : r = ((N / 10 ^ j % 10 : Nat) : Int)) (h : N / 10 ^ (j + 1) = 0) (g : j = 0 ∨ N / 10 ^ j ≠ 0) (hj : j ≤ 38) (hN : 0 < N) :
    (⟨#[45]⟩ ++ (strOfNums [48 + r] ++ S) : ByteArray) = strOfNums (textOf (- (N : Int))) := by
  apply ba_ext
  rw [Joins.data_append, next_list N j r S hS hr, ← text_end_neg N j h g hj hN]; rfl
theorem ret_text {a b : ByteArray} (h : a = b) : Ending.returned (.string a) = .returned (.string b) := by rw [h]

def lenOf : Value → Nat
  | .string s => s.size
  | _ => 0

set_option maxHeartbeats 1000000 in
theorem rtext_pos (ah al : Int) (w : World) (h0 : 0 ≤ ah) (h1 : ah ≤ 9223372036854775807) (l0 : 0 ≤ al) (l1 : al ≤ 18446744073709551615) :
    Calls Try.prog 11 #[.agg #[.int .i64 ah, .int .u64 al]] w fun e w' => e = .returned (.string (strOfNums (textOf (wv ah al)))) ∧ Below w.heap.size w w' := by
  obtain ⟨X, hX⟩ : ∃ X : Nat, (X : Int) = wv ah al := ⟨(wv ah al).toNat, by unfold wv; omega⟩
  have hX1 : X < 170141183460469231731687303715884105728 := by unfold wv at hX; omega
  go_enter Try.func11, Try.ntmps11
  go_wp2_with fail
  refine (bytes_any _ _ _ (by omega) h1 l0 l1).mono ?_
  rintro e w1 ⟨v, rfl, hown, hb1⟩
  rw [show (wv ah al % 340282366920938463463374607431768211456).toNat = X by omega] at hown
  obtain ⟨g, cap, rfl, hc, hm, hg, hrow⟩ := own16 hown
  have c15 := hrow.2.1 15 (by omega)
  dsimp only at c15
  have x15 : ¬ (128 : Int) ≤ ((X / 256 ^ 15 % 256 : Nat) : Int) := by omega
  obtain ⟨q0, q1, hz⟩ := blocks1 hb1
  generalize ((X / 256 ^ 15 % 256 : Nat) : Int) = xx at c15 x15
  go_wp2_with fail
  have hrow : Row16 w1 g (bytesOf (X / 10 ^ 0)) := hrow.congr (fun i hi => by unfold bytesOf; rw [Nat.pow_zero, Nat.div_one])
  have hgw : w.heap.size + 1 ≤ g := by simpa using hg
  have hbw : Below w.heap.size w w1 := ab_trans (ab_alloc (Below.refl _ _) _) hb1
  have HX : Hid ((X : Int) = wv ah al) := hX
  clear hown hb1 hg hX c15 x15 q0 q1 hz
  go_loopw [3] (fun sv wr => ∃ (j : Nat) (S : ByteArray), sv = .string S ∧ S.data.toList = toB (dl X j) ∧ S.size = j ∧ j ≤ 38 ∧ (j = 0 ∨ X / 10 ^ j ≠ 0) ∧ Row16 wr g (bytesOf (X / 10 ^ j)) ∧ Below w.heap.size w wr) (fun sv _ => 40 - lenOf sv)
  case atStart => exact ⟨0, _, rfl, rfl, rfl, by omega, .inl rfl, hrow, hbw⟩
  case round =>
    clear hrow hbw
    obtain ⟨j, S, rfl, hS, hSj, hj, hg0, hrow, hbw⟩ := hrel
    obtain ⟨M, hM⟩ : ∃ M, X / 10 ^ j = M := ⟨_, rfl⟩
    rw [hM] at hrow
    have HM : Hid (X / 10 ^ j = M) := hM
    have HG : Hid (j = 0 ∨ X / 10 ^ j ≠ 0) := hg0
    clear hM hg0
    go_wp2_with fail
    have hM16 : M / 256 ^ 16 = 0 := by
      have := HM.out
      have h2 := Nat.div_le_self X (10 ^ j)
      exact Nat.div_eq_of_lt (by omega)
    have HM16 : Hid (M / 256 ^ 16 = 0) := hM16
    have hrow := hrow.congr (dv_start M)
    clear hM16
    obtain ⟨wo, rfl⟩ : ∃ wo : World, wo = wr := ⟨_, rfl⟩
    go_loopw [6, 7, 8] (fun rest more i wr => ∃ (k p : Nat) (r : Int) (b : Bool), k + p = 16 ∧ i = .int .i64 ((p : Int) - 1) ∧ rest = .int .i64 r ∧ more = .bool b ∧ r = ((M / 256 ^ p % 10 : Nat) : Int) ∧ (b = true ↔ M / 256 ^ p / 10 ≠ 0) ∧ Row16 wr g (dv M p) ∧ Below w.heap.size w wr) (fun _ _ i _ => (intOf i + 1).toNat)
    case atStart => exact ⟨0, 16, 0, false, by omega, rfl, rfl, rfl, by rw [HM16.out]; rfl, by rw [HM16.out]; simp, hrow, hbw⟩
    case round =>
      clear hrow hbw
      obtain ⟨k, p, r, b, hk, rfl, rfl, rfl, hr, hb, hrow, hbw⟩ := hrel
      by_cases c : p = 0
      · subst c
        have hrow := hrow.congr (dv_end M)
        have hr0 : 0 ≤ r ∧ r ≤ 9 := by omega
        have HR : Hid (r = ((M % 10 : Nat) : Int)) := by show r = _; rw [hr, Nat.pow_zero, Nat.div_one]
        have HB : Hid (b = true ↔ M / 10 ≠ 0) := by show (b = true ↔ _); rw [hb, Nat.pow_zero, Nat.div_one]
        clear hr hb
        have hS40 : S.size ≤ 38 := by omega
        have hcv := conv_one wr (48 + r)
        have hsz : (strOfNums [48 + r]).size = 1 := rfl
        have HR2 : Hid (r = ((X / 10 ^ j % 10 : Nat) : Int)) := by show r = _; rw [HR.out, HM.out]
        have HM2 : Hid (X / 10 ^ (j + 1) = M / 10) := by show _ = _; rw [ten_step, HM.out]
        cases b
        · have HV : Hid (_ = _) := whole_pos X j r S hS HR2.out (by
            have : ¬ M / 10 ≠ 0 := by rw [← HB.out]; simp
            rw [HM2.out]; omega) HG.out hj
          go_wp2_with fail
          go_ret
          exact ⟨ret_text (by rw [← HX.out]; exact HV.out), ab_alloc hbw _⟩
        · have HZ : Hid (X / 10 ^ (j + 1) ≠ 0) := by show _ ≠ _; rw [HM2.out]; exact HB.out.1 rfl
          have hj8 := ten_pow X (j + 1) HZ.out (by omega)
          have hrow2 : Row16 (wr.alloc (.cells #[.int .u8 (48 + r)] 5)) g (bytesOf (X / 10 ^ (j + 1))) := by rw [HM2.out]; exact hrow.keep (ab_alloc (Below.refl _ _) _)
          have hbw2 := ab_alloc hbw (.cells #[.int .u8 (48 + r)] 5)
          clear hrow hbw
          go_wp2_with fail
          go_roundw
          case rel => exact ⟨j + 1, _, rfl, next_list X j r S hS HR2.out, by rw [next_size]; omega, hj8, .inr HZ.out, hrow2, hbw2⟩
          case measure => simp [lenOf]; omega
      · obtain ⟨q, rfl⟩ : ∃ q, p = q + 1 := ⟨p - 1, by omega⟩
        have c1 := hrow.2.1 q (by omega)
        have c2 := hrow.2.2 q (by omega)
        have hq : (q : Int) < 16 := by omega
        obtain ⟨bq, hbq⟩ : ∃ bq : Int, bq = ((M / 256 ^ q % 256 : Nat) : Int) := ⟨_, rfl⟩
        rw [show dv M (q + 1) q = bq by unfold dv; rw [if_neg (by omega), hbq]] at c1
        obtain ⟨e1, e2, e3, e4, e5⟩ := dv_step M q (r * 256 + bq) (by rw [hr, hbq])
        have hr0 : 0 ≤ r ∧ r ≤ 9 := by omega
        have hb0 : 0 ≤ bq ∧ bq ≤ 255 := by omega
        have HR := (hrow.set q (by omega) ((r * 256 + bq) / 10)).congr (fun i hi => (congrArg (fun z => upd (dv M (q + 1)) q z i) e1).trans (dv_upd M q i hi))
        have HW : Below w.heap.size w (wr.setCell ⟨g, q, none⟩ (.int .i64 ((r * 256 + bq) / 10))) := ab_set hbw (by dsimp only; omega) _
        have HE2 : Hid ((r * 256 + bq) % 10 = ((M / 256 ^ q % 10 : Nat) : Int)) := e2
        have HB1 : Hid (b = true → M / 256 ^ q / 10 ≠ 0) := by
          intro h; have := hb.1 h; rw [e5]; omega
        have HB2 : Hid (b = false → (decide (0 < (r * 256 + bq) / 10) = true ↔ M / 256 ^ q / 10 ≠ 0)) := by
          intro h
          have : ¬ M / 256 ^ (q + 1) / 10 ≠ 0 := by rw [← hb, h]; simp
          rw [decide_eq_true_iff, e5]; omega
        clear hr hb hrow hbw e1 e2 e3 e4 e5 hbq
        cases b
        · go_wp2_with fail
          go_roundw
          case rel => exact ⟨k + 1, q, _, _, by omega, by go_num, rfl, rfl, HE2.out, HB2.out rfl, HR, HW⟩
          case measure => simp [intOf]
        · go_wp2_with fail
          go_roundw
          case rel => exact ⟨k + 1, q, _, _, by omega, by go_num, rfl, rfl, HE2.out, ⟨fun _ => HB1.out rfl, fun _ => rfl⟩, HR, HW⟩
          case measure => simp [intOf]

set_option maxHeartbeats 1000000 in
theorem rtext_neg (ah al : Int) (w : World) (h0 : -9223372036854775808 ≤ ah) (h1 : ah < 0) (l0 : 0 ≤ al) (l1 : al ≤ 18446744073709551615) :
    Calls Try.prog 11 #[.agg #[.int .i64 ah, .int .u64 al]] w fun e w' => e = .returned (.string (strOfNums (textOf (wv ah al)))) ∧ Below w.heap.size w w' := by
  obtain ⟨X, hX⟩ : ∃ X : Nat, - (X : Int) = wv ah al := ⟨(- wv ah al).toNat, by unfold wv; omega⟩
  have hX1 : X ≤ 170141183460469231731687303715884105728 := by unfold wv at hX; omega
  have hX0 : 0 < X := by unfold wv at hX; omega
  go_enter Try.func11, Try.ntmps11
  go_wp2_with fail
  refine (bytes_any _ _ _ h0 (by omega) l0 l1).mono ?_
  rintro e w1 ⟨v, rfl, hown, hb1⟩
  rw [show (wv ah al % 340282366920938463463374607431768211456).toNat = 340282366920938463463374607431768211456 - X by omega] at hown
  obtain ⟨g0, cap0, rfl, hc0, hm0, hg0, hrow0⟩ := own16 hown
  have c15 := hrow0.2.1 15 (by omega)
  dsimp only at c15
  have x15 : (128 : Int) ≤ (((340282366920938463463374607431768211456 - X) / 256 ^ 15 % 256 : Nat) : Int) := by omega
  obtain ⟨q0, q1, hz⟩ := blocks1 hb1
  have hbw1 : Below w.heap.size w w1 := ab_trans (ab_alloc (Below.refl _ _) _) hb1
  generalize (((340282366920938463463374607431768211456 - X) / 256 ^ 15 % 256 : Nat) : Int) = xx at c15 x15
  clear hrow0 hown hb1
  go_wp2_with fail
  refine (rneg_any _ _ _ h0 (by omega) l0 l1).mono ?_
  rintro e w2 ⟨rfl, hb2⟩
  go_wp2_with fail
  refine (bytes_any _ _ _ (wh_bd _).1 (wh_bd _).2 (wl_bd _).1 (wl_bd _).2).mono ?_
  rintro e w3 ⟨v, rfl, hown, hb3⟩
  rw [show (wv (wh (- wv ah al)) (wl (- wv ah al)) % 340282366920938463463374607431768211456).toNat = X by
    obtain ⟨k, e⟩ := wv_back (- wv ah al)
    rw [e, ← hX]; omega] at hown
  obtain ⟨g, cap, rfl, hc, hm, hg, hrow⟩ := own16 hown
  have hbw : Below w.heap.size w w3 := ab_trans (ab_trans hbw1 hb2) hb3
  have hgw : w.heap.size + 1 ≤ g := by have := hb2.size; omega
  go_wp2_with fail
  have hrow : Row16 w3 g (bytesOf (X / 10 ^ 0)) := hrow.congr (fun i hi => by unfold bytesOf; rw [Nat.pow_zero, Nat.div_one])
  have HX : Hid (- (X : Int) = wv ah al) := hX
  clear hown hb3 hb2 hbw1 hg hX c15 x15 q0 q1 hz
  go_loopw [3] (fun sv wr => ∃ (j : Nat) (S : ByteArray), sv = .string S ∧ S.data.toList = toB (dl X j) ∧ S.size = j ∧ j ≤ 38 ∧ (j = 0 ∨ X / 10 ^ j ≠ 0) ∧ Row16 wr g (bytesOf (X / 10 ^ j)) ∧ Below w.heap.size w wr) (fun sv _ => 40 - lenOf sv)
  case atStart => exact ⟨0, _, rfl, rfl, rfl, by omega, .inl rfl, hrow, hbw⟩
  case round =>
    clear hrow hbw
    obtain ⟨j, S, rfl, hS, hSj, hj, hg0, hrow, hbw⟩ := hrel
    obtain ⟨M, hM⟩ : ∃ M, X / 10 ^ j = M := ⟨_, rfl⟩
    rw [hM] at hrow
    have HM : Hid (X / 10 ^ j = M) := hM
    have HG : Hid (j = 0 ∨ X / 10 ^ j ≠ 0) := hg0
    clear hM hg0
    go_wp2_with fail
    have hM16 : M / 256 ^ 16 = 0 := by
      have := HM.out
      have h2 := Nat.div_le_self X (10 ^ j)
      exact Nat.div_eq_of_lt (by omega)
    have HM16 : Hid (M / 256 ^ 16 = 0) := hM16
    have hrow := hrow.congr (dv_start M)
    clear hM16
    obtain ⟨wo, rfl⟩ : ∃ wo : World, wo = wr := ⟨_, rfl⟩
    go_loopw [6, 7, 8] (fun rest more i wr => ∃ (k p : Nat) (r : Int) (b : Bool), k + p = 16 ∧ i = .int .i64 ((p : Int) - 1) ∧ rest = .int .i64 r ∧ more = .bool b ∧ r = ((M / 256 ^ p % 10 : Nat) : Int) ∧ (b = true ↔ M / 256 ^ p / 10 ≠ 0) ∧ Row16 wr g (dv M p) ∧ Below w.heap.size w wr) (fun _ _ i _ => (intOf i + 1).toNat)
    case atStart => exact ⟨0, 16, 0, false, by omega, rfl, rfl, rfl, by rw [HM16.out]; rfl, by rw [HM16.out]; simp, hrow, hbw⟩
    case round =>
      clear hrow hbw
      obtain ⟨k, p, r, b, hk, rfl, rfl, rfl, hr, hb, hrow, hbw⟩ := hrel
      by_cases c : p = 0
      · subst c
        have hrow := hrow.congr (dv_end M)
        have hr0 : 0 ≤ r ∧ r ≤ 9 := by omega
        have HR : Hid (r = ((M % 10 : Nat) : Int)) := by show r = _; rw [hr, Nat.pow_zero, Nat.div_one]
        have HB : Hid (b = true ↔ M / 10 ≠ 0) := by show (b = true ↔ _); rw [hb, Nat.pow_zero, Nat.div_one]
        clear hr hb
        have hS40 : S.size ≤ 38 := by omega
        have hcv := conv_one wr (48 + r)
        have hsz : (strOfNums [48 + r]).size = 1 := rfl
        have HR2 : Hid (r = ((X / 10 ^ j % 10 : Nat) : Int)) := by show r = _; rw [HR.out, HM.out]
        have HM2 : Hid (X / 10 ^ (j + 1) = M / 10) := by show _ = _; rw [ten_step, HM.out]
        cases b
        · have HV : Hid (_ = _) := whole_neg X j r S hS HR2.out (by
            have : ¬ M / 10 ≠ 0 := by rw [← HB.out]; simp
            rw [HM2.out]; omega) HG.out hj hX0
          go_wp2_with fail
          go_ret
          exact ⟨ret_text (by rw [← HX.out]; exact HV.out), ab_alloc hbw _⟩
        · have HZ : Hid (X / 10 ^ (j + 1) ≠ 0) := by show _ ≠ _; rw [HM2.out]; exact HB.out.1 rfl
          have hj8 := ten_pow X (j + 1) HZ.out (by omega)
          have hrow2 : Row16 (wr.alloc (.cells #[.int .u8 (48 + r)] 5)) g (bytesOf (X / 10 ^ (j + 1))) := by rw [HM2.out]; exact hrow.keep (ab_alloc (Below.refl _ _) _)
          have hbw2 := ab_alloc hbw (.cells #[.int .u8 (48 + r)] 5)
          clear hrow hbw
          go_wp2_with fail
          go_roundw
          case rel => exact ⟨j + 1, _, rfl, next_list X j r S hS HR2.out, by rw [next_size]; omega, hj8, .inr HZ.out, hrow2, hbw2⟩
          case measure => simp [lenOf]; omega
      · obtain ⟨q, rfl⟩ : ∃ q, p = q + 1 := ⟨p - 1, by omega⟩
        have c1 := hrow.2.1 q (by omega)
        have c2 := hrow.2.2 q (by omega)
        have hq : (q : Int) < 16 := by omega
        obtain ⟨bq, hbq⟩ : ∃ bq : Int, bq = ((M / 256 ^ q % 256 : Nat) : Int) := ⟨_, rfl⟩
        rw [show dv M (q + 1) q = bq by unfold dv; rw [if_neg (by omega), hbq]] at c1
        obtain ⟨e1, e2, e3, e4, e5⟩ := dv_step M q (r * 256 + bq) (by rw [hr, hbq])
        have hr0 : 0 ≤ r ∧ r ≤ 9 := by omega
        have hb0 : 0 ≤ bq ∧ bq ≤ 255 := by omega
        have HR := (hrow.set q (by omega) ((r * 256 + bq) / 10)).congr (fun i hi => (congrArg (fun z => upd (dv M (q + 1)) q z i) e1).trans (dv_upd M q i hi))
        have HW : Below w.heap.size w (wr.setCell ⟨g, q, none⟩ (.int .i64 ((r * 256 + bq) / 10))) := ab_set hbw (by dsimp only; omega) _
        have HE2 : Hid ((r * 256 + bq) % 10 = ((M / 256 ^ q % 10 : Nat) : Int)) := e2
        have HB1 : Hid (b = true → M / 256 ^ q / 10 ≠ 0) := by
          intro h; have := hb.1 h; rw [e5]; omega
        have HB2 : Hid (b = false → (decide (0 < (r * 256 + bq) / 10) = true ↔ M / 256 ^ q / 10 ≠ 0)) := by
          intro h
          have : ¬ M / 256 ^ (q + 1) / 10 ≠ 0 := by rw [← hb, h]; simp
          rw [decide_eq_true_iff, e5]; omega
        clear hr hb hrow hbw e1 e2 e3 e4 e5 hbq
        cases b
        · go_wp2_with fail
          go_roundw
          case rel => exact ⟨k + 1, q, _, _, by omega, by go_num, rfl, rfl, HE2.out, HB2.out rfl, HR, HW⟩
          case measure => simp [intOf]
        · go_wp2_with fail
          go_roundw
          case rel => exact ⟨k + 1, q, _, _, by omega, by go_num, rfl, rfl, HE2.out, ⟨fun _ => HB1.out rfl, fun _ => rfl⟩, HR, HW⟩
          case measure => simp [intOf]

theorem rtext_any (ah al : Int) (w : World) (h0 : -9223372036854775808 ≤ ah) (h1 : ah ≤ 9223372036854775807) (l0 : 0 ≤ al) (l1 : al ≤ 18446744073709551615) :
    Calls Try.prog 11 #[.agg #[.int .i64 ah, .int .u64 al]] w fun e w' => e = .returned (.string (strOfNums (textOf (wv ah al)))) ∧ Below w.heap.size w w' := by
  by_cases c : ah < 0
  · exact rtext_neg ah al w h0 c l0 l1
  · exact rtext_pos ah al w (by omega) h1 l0 l1
end Go.Proofs.Ytahpnkdofnnolab
