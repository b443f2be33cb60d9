/-
  How many binary digits amounts have: floor.Bits and the document's Bits.
-/
import Derived.Test.YtnooedipanhkjaaWalk2
import Derived.Lib.BitFns
namespace Go.Proofs.Ytnooedipanhkjaa.floorBits
set_option maxRecDepth 100000
open Go.RowKit
set_option linter.unusedVariables false

theorem tab_size : Lib.len8tab.size = 256 := by decide +kernel
theorem tab_all : ∀ n : Fin 256, (Lib.len8tab[n.val]'(by rw [tab_size]; exact n.2)).toNat = Lib.bitLen n.val := by decide +kernel
theorem tab_at (n : Nat) (h : n < Lib.len8tab.size) : (Lib.len8tab[n]'h).toNat = Lib.bitLen n := tab_all ⟨n, by rw [tab_size] at h; exact h⟩
theorem fin_num (x y b : Int) (s : Nat) (hx0 : 0 ≤ x) (hx : x ≤ 18446744073709551615) (hy0 : 0 ≤ y) (hy : y ≤ 255) (hs : s ≤ 56) (e : y.toNat = x.toNat / 2 ^ s) (hl : 2 ^ s ≤ x.toNat) (hb : b = (Lib.bitLen y.toNat : Int)) :
    wrap64 (s + wrap64 b) = (Lib.bitLen x.toNat : Int) := by
  have hx' : x.toNat < 2 ^ 64 := by clear hb hl e; omega
  have l := Lib.bitLen_le8' y hy0 hy
  have sh := Lib.bitLen_shift s x.toNat hl hx'
  rw [hb, sh]; rw [e] at l ⊢
  generalize Lib.bitLen (x.toNat / 2 ^ s) = B at l ⊢
  clear hb sh e hl hx'
  unfold wrap64; omega
theorem fin_num0 (x b : Int) (hx0 : 0 ≤ x) (hx : x ≤ 255) (hb : b = (Lib.bitLen x.toNat : Int)) : wrap64 (wrap64 b) = (Lib.bitLen x.toNat : Int) := by
  have l := Lib.bitLen_le8' x hx0 hx
  rw [hb]; clear hb
  generalize Lib.bitLen x.toNat = B at l ⊢
  unfold wrap64; omega
theorem tab_int (n : Nat) (h : n < Lib.len8tab.size) : ((Lib.len8tab[n]'h).toNat : Int) = (Lib.bitLen n : Int) := congrArg Int.ofNat (tab_at n h)

theorem amount_eq (n : Int) (h0 : -9223372036854775808 ≤ n) (h1 : n ≤ 9223372036854775807) : IntKind.u64.wrap (wrap64 (bits .xor .i64 n (sgn n) - sgn n)) = (n.natAbs : Int) := by
  unfold sgn
  by_cases c : n < 0
  · rw [if_pos c, xor_m1 n h0 h1, IntKind.wrap_u64]; unfold wrap64; omega
  · rw [if_neg c, xor_0 n h0 h1, IntKind.wrap_u64]; unfold wrap64; omega

theorem pow_le {j m : Nat} (h : 2 ^ j ≤ m) (hm : m ≤ 9223372036854775807) : j ≤ 62 := by
  rcases Nat.lt_or_ge j 63 with c | c
  · omega
  · have := Nat.pow_le_pow_right (show 0 < 2 by omega) c
    omega
theorem bitLen_of (x k : Nat) (h : 2 ^ k ≤ x) (h' : x < 2 ^ (k + 1)) (hx : x < 2 ^ 64) : Lib.bitLen x = k + 1 := by
  have hp : 0 < 2 ^ k := Nat.two_pow_pos k
  rw [Lib.bitLen_shift k x h hx, show x / 2 ^ k = 1 from Nat.div_eq_of_lt_le (by omega) (by rw [Nat.pow_succ] at h'; omega)]; rfl

theorem bl_bd (n : Int) (h0 : -9223372036854775808 ≤ n) (h1 : n ≤ 9223372036854775807) : Lib.bitLen n.natAbs ≤ 64 := Lib.bitLenAux_le 64 _ 64 (by omega)

end Go.Proofs.Ytnooedipanhkjaa.floorBits
