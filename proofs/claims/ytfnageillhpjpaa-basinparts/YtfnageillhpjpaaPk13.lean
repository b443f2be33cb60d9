/-
  How many binary digits amounts have: floor.Bits and the document's Bits.
-/
import Derived.Test.YtfnageillhpjpaaPk10
import Derived.Lib.BitFns
namespace Go.Proofs.Ytfnageillhpjpaa.floorBits
set_option maxRecDepth 100000
open Go.RowKit
set_option linter.unusedVariables false

theorem tab_size : Lib.len8tab.size = 256 := by decide +kernel
theorem tab_all : ∀ n : Fin 256, (Lib.len8tab[n.val]'(by rw [tab_size]; exact n.2)).toNat = Lib.bitLen n.val := by decide +kernel
theorem tab_at (n : Nat) (h : n < Lib.len8tab.size) : (Lib.len8tab[n]'h).toNat = Lib.bitLen n := tab_all ⟨n, by rw [tab_size] at h; exact h⟩
theorem fin_num (x y b : Int) (s : Nat) (hx0 : 0 ≤ x) (hx : x ≤ 18446744073709551615) (hy0 : 0 ≤ y) (hy : y ≤ 255) (hs : s ≤ 56) (e : y.toNat = x.toNat / 2 ^ s) (hl : 2 ^ s ≤ x.toNat) (hb : b = (Lib.bitLen y.toNat : Int)) :
    wrap64 (s + wrap64 b) = (Lib.bitLen x.toNat : Int) := by
  have hx' : x.toNat < 2 ^ 64 := by clear hb hl e; omega
  have l := Lib.bitLen_le8' y hy0 hy
  have sh := Lib.bitLen_shift s x.toNat hl hx'
  rw [hb, sh]; rw [e] at l ⊢
  generalize Lib.bitLen (x.toNat / 2 ^ s) = B at l ⊢
  clear hb sh e hl hx'
  unfold wrap64; omega
theorem fin_num0 (x b : Int) (hx0 : 0 ≤ x) (hx : x ≤ 255) (hb : b = (Lib.bitLen x.toNat : Int)) : wrap64 (wrap64 b) = (Lib.bitLen x.toNat : Int) := by
  have l := Lib.bitLen_le8' x hx0 hx
  rw [hb]; clear hb
  generalize Lib.bitLen x.toNat = B at l ⊢
  unfold wrap64; omega
theorem tab_int (n : Nat) (h : n < Lib.len8tab.size) : ((Lib.len8tab[n]'h).toNat : Int) = (Lib.bitLen n : Int) := congrArg Int.ofNat (tab_at n h)

set_option maxHeartbeats 1000000 in
set_option maxRecDepth 100000 in
theorem len64_any (x : Int) (w : World) (h0 : 0 ≤ x) (h1 : x ≤ 18446744073709551615) :
    Calls Try.prog 74 #[.int .u64 x] w fun e w' => e = .returned (.int .i64 (Lib.bitLen x.toNat)) ∧ w' = w := by
  have hsz := tab_size
  go_enter Try.func74, Try.ntmps74
  go_wp2
  all_goals (go_ret; refine ⟨ret_int ?_, rfl⟩)
  · exact fin_num x _ _ 56 h0 h1 (by omega) (by omega) (by omega) (by omega) (by omega) (tab_int _ _)
  · exact fin_num x _ _ 48 h0 h1 (by omega) (by omega) (by omega) (by omega) (by omega) (tab_int _ _)
  · exact fin_num x _ _ 40 h0 h1 (by omega) (by omega) (by omega) (by omega) (by omega) (tab_int _ _)
  · exact fin_num x _ _ 32 h0 h1 (by omega) (by omega) (by omega) (by omega) (by omega) (tab_int _ _)
  · exact fin_num x _ _ 24 h0 h1 (by omega) (by omega) (by omega) (by omega) (by omega) (tab_int _ _)
  · exact fin_num x _ _ 16 h0 h1 (by omega) (by omega) (by omega) (by omega) (by omega) (tab_int _ _)
  · exact fin_num x _ _ 8 h0 h1 (by omega) (by omega) (by omega) (by omega) (by omega) (tab_int _ _)
  · exact fin_num0 x _ h0 (by omega) (tab_int _ _)

theorem amount_eq (n : Int) (h0 : -9223372036854775808 ≤ n) (h1 : n ≤ 9223372036854775807) : IntKind.u64.wrap (wrap64 (bits .xor .i64 n (sgn n) - sgn n)) = (n.natAbs : Int) := by
  unfold sgn
  by_cases c : n < 0
  · rw [if_pos c, xor_m1 n h0 h1, IntKind.wrap_u64]; unfold wrap64; omega
  · rw [if_neg c, xor_0 n h0 h1, IntKind.wrap_u64]; unfold wrap64; omega

set_option maxHeartbeats 400000 in
theorem bits_any (n : Int) (w : World) (h0 : -9223372036854775808 ≤ n) (h1 : n ≤ 9223372036854775807) :
    Calls Try.prog 63 #[.int .i64 n] w fun e w' => e = .returned (.int .i64 (Lib.bitLen n.natAbs)) ∧ w' = w := by
  have HA : Hid (_ = _) := amount_eq n h0 h1
  go_enter Try.func63, Try.ntmps63
  go_wp2_with fail
  refine (spread_any _ _ h0 h1).mono ?_
  rintro e w' ⟨rfl, rfl⟩
  go_wp2_with fail
  rw [HA.out]
  refine (len64_any _ _ (by omega) (by omega)).mono ?_
  rintro e w' ⟨rfl, rfl⟩
  go_wp2_with fail
  go_ret
  exact ⟨rfl, rfl⟩

theorem pow_le {j m : Nat} (h : 2 ^ j ≤ m) (hm : m ≤ 9223372036854775807) : j ≤ 62 := by
  rcases Nat.lt_or_ge j 63 with c | c
  · omega
  · have := Nat.pow_le_pow_right (show 0 < 2 by omega) c
    omega
theorem bitLen_of (x k : Nat) (h : 2 ^ k ≤ x) (h' : x < 2 ^ (k + 1)) (hx : x < 2 ^ 64) : Lib.bitLen x = k + 1 := by
  have hp : 0 < 2 ^ k := Nat.two_pow_pos k
  rw [Lib.bitLen_shift k x h hx, show x / 2 ^ k = 1 from Nat.div_eq_of_lt_le (by omega) (by rw [Nat.pow_succ] at h'; omega)]; rfl

set_option maxHeartbeats 400000 in
theorem rbits_neg (n : Int) (w : World) (h0 : -9223372036854775808 ≤ n) (h1 : n < 0) :
    Calls Try.prog 33 #[.int .i64 n] w fun e w' => e = .returned (.int .i64 (Lib.bitLen n.natAbs)) ∧ w' = w := by
  have hn : (n == 0) = false := by simp; omega
  obtain ⟨m, rfl⟩ : ∃ m : Nat, n = - (m : Int) - 1 := ⟨(- n - 1).toNat, by omega⟩
  rw [show (- (m : Int) - 1).natAbs = m + 1 by omega]
  go_enter Try.func33, Try.ntmps33
  go_wp2_with fail
  go_loop [4, 5] (fun k p => ∃ j q : Nat, k = .int .i64 (j : Int) ∧ p = .int .i64 (q : Int) ∧ q + 1 = 2 ^ j ∧ j ≤ 63 ∧ (j = 0 ∨ 2 ^ (j - 1) ≤ m)) (fun _ p => m - (intOf p).toNat)
  case atStart => exact ⟨0, 0, rfl, rfl, rfl, by omega, .inl rfl⟩
  case round =>
    obtain ⟨j, q, rfl, rfl, hq, hj, hg⟩ := hrel
    by_cases c : q < m
    · have hj2 : j ≤ 62 := pow_le (m := m) (by omega) (by omega)
      have hq2 : q ≤ 4611686018427387903 := by
        have := Nat.pow_le_pow_right (show 0 < 2 by omega) hj2
        omega
      have HQ : Hid (2 * q + 1 + 1 = 2 ^ (j + 1)) := by show _ = _; rw [Nat.pow_succ]; omega
      have HG : Hid (2 ^ (j + 1 - 1) ≤ m) := by show _ ≤ _; rw [Nat.add_sub_cancel]; omega
      clear hq hg
      go_wp2_with fail
      go_round
      case rel => exact ⟨j + 1, 2 * q + 1, by go_num, by go_num, HQ.out, by omega, .inr HG.out⟩
      case measure => simp [intOf]; omega
    · by_cases d : q = m
      · subst d
        have HX : Hid ((j : Int) + 1 = (Lib.bitLen (q + 1) : Int)) := by
          show _ = _; rw [bitLen_of (q + 1) j (by omega) (by rw [Nat.pow_succ]; omega) (by omega)]; omega
        clear hq hg
        go_wp2_with fail
        go_ret
        exact ⟨ret_int HX.out, rfl⟩
      · have HX : Hid ((j : Int) = (Lib.bitLen (m + 1) : Int)) := by
          show _ = _
          rcases hg with rfl | g
          · simp at hq; omega
          · obtain ⟨i, rfl⟩ : ∃ i, j = i + 1 := ⟨j - 1, by cases j with | zero => simp at hq; omega | succ n => omega⟩
            rw [Nat.add_sub_cancel] at g
            rw [bitLen_of (m + 1) i (by omega) (by omega) (by omega)]
        have d1 : ((q : Int) == (m : Int)) = false := by simp; omega
        clear hq hg
        go_wp2_with fail
        go_ret
        exact ⟨ret_int HX.out, rfl⟩

set_option maxHeartbeats 400000 in
theorem rbits_pos (n : Int) (w : World) (h0 : 0 < n) (h1 : n ≤ 9223372036854775807) :
    Calls Try.prog 33 #[.int .i64 n] w fun e w' => e = .returned (.int .i64 (Lib.bitLen n.natAbs)) ∧ w' = w := by
  have hn : (n == 0) = false := by simp; omega
  obtain ⟨m, rfl⟩ := Int.eq_ofNat_of_zero_le (show 0 ≤ n by omega)
  rw [Int.natAbs_natCast]
  go_enter Try.func33, Try.ntmps33
  go_wp2_with fail
  go_loop [0, 6] (fun n k => ∃ j v : Nat, n = .int .i64 (v : Int) ∧ k = .int .i64 (j : Int) ∧ v = m / 2 ^ j ∧ j ≤ 63 ∧ (j = 0 ∨ m / 2 ^ (j - 1) ≠ 0)) (fun n _ => (intOf n).toNat)
  case atStart => exact ⟨0, m, rfl, rfl, by simp, by omega, .inl rfl⟩
  case round =>
    obtain ⟨j, v, rfl, rfl, hv, hj, hg⟩ := hrel
    have hvm : v ≤ m := by rw [hv]; exact Nat.div_le_self _ _
    by_cases c : 0 < v
    · have hl : 2 ^ j ≤ m := by
        rcases Nat.lt_or_ge m (2 ^ j) with d | d
        · rw [Nat.div_eq_of_lt d] at hv; omega
        · exact d
      have hj2 : j ≤ 62 := pow_le hl (by omega)
      have HV : Hid (v / 2 = m / 2 ^ (j + 1)) := by show _ = _; rw [Nat.pow_succ, ← Nat.div_div_eq_div_mul, ← hv]
      have HG : Hid (m / 2 ^ (j + 1 - 1) ≠ 0) := by show _ ≠ _; rw [Nat.add_sub_cancel, ← hv]; omega
      clear hv hg hl
      go_wp2_with fail
      go_round
      case rel => exact ⟨j + 1, v / 2, by go_num, by go_num, HV.out, by omega, .inr HG.out⟩
      case measure => simp [intOf]; omega
    · obtain rfl : v = 0 := by omega
      have HX : Hid ((j : Int) = (Lib.bitLen m : Int)) := by
        show _ = _
        rcases hg with rfl | g
        · simp at hv; omega
        · obtain ⟨i, rfl⟩ : ∃ i, j = i + 1 := ⟨j - 1, by cases j with | zero => simp at hv; omega | succ n => omega⟩
          rw [Nat.add_sub_cancel] at g
          have a1 : 2 ^ i ≤ m := by
            rcases Nat.lt_or_ge m (2 ^ i) with d | d
            · exact absurd (Nat.div_eq_of_lt d) g
            · exact d
          have a2 : m < 2 ^ (i + 1) := by
            rcases Nat.lt_or_ge m (2 ^ (i + 1)) with d | d
            · exact d
            · have := Nat.div_pos d (Nat.two_pow_pos (i + 1)); omega
          rw [bitLen_of m i a1 a2 (by omega)]
      clear hv hg
      go_wp2_with fail
      go_ret
      exact ⟨ret_int HX.out, rfl⟩

theorem rbits_any (n : Int) (w : World) (h0 : -9223372036854775808 ≤ n) (h1 : n ≤ 9223372036854775807) :
    Calls Try.prog 33 #[.int .i64 n] w fun e w' => e = .returned (.int .i64 (Lib.bitLen n.natAbs)) ∧ w' = w := by
  by_cases c : n < 0
  · exact rbits_neg n w h0 c
  · by_cases d : n = 0
    · subst d
      go_enter Try.func33, Try.ntmps33
      go_wp2
      go_ret
      exact ⟨rfl, rfl⟩
    · exact rbits_pos n w (by omega) h1

theorem bl_bd (n : Int) (h0 : -9223372036854775808 ≤ n) (h1 : n ≤ 9223372036854775807) : Lib.bitLen n.natAbs ≤ 64 := Lib.bitLenAux_le 64 _ 64 (by omega)

end Go.Proofs.Ytfnageillhpjpaa.floorBits
