/-
  The document's wide numbers as rows of sixteen bytes: what estuaryref01.Bytes and Wide return.
-/
import Derived.Test.YtnppdachbfcfkaaWalk2
import Derived.Test.YtnppdachbfcfkaaRegion
namespace Go.Proofs.Ytnppdachbfcfkaa
open Go.RowKit
set_option linter.unusedVariables false

theorem infoInt : (Try.prog.info? 3).map (fun i => (i.zero, i.size, i.bytes)) = some (some (.int .i64 0), 1, 8) := by kernel_rfl

/-- The first k bytes of a number, the lowest first. -/
def bts (x : Nat) (k : Nat) : List Value := (List.range k).map fun i => .int .i64 ((x / 256 ^ i % 256 : Nat) : Int)

theorem bts_len (x k : Nat) : (bts x k).length = k := by simp [bts]
theorem bts_succ (x k : Nat) : bts x k ++ [.int .i64 ((x / 256 ^ k % 256 : Nat) : Int)] = bts x (k + 1) := by
  unfold bts; rw [List.range_succ, List.map_append]; rfl
theorem step256 (x k : Nat) : x / 256 ^ (k + 1) = x / 256 ^ k / 256 := by rw [Nat.pow_succ, Nat.div_div_eq_div_mul]

theorem low8 (X H L : Nat) (h : X = H * 18446744073709551616 + L) (hL : L < 18446744073709551616) : bts L 8 = bts X 8 := by
  subst h
  unfold bts
  apply List.map_congr_left
  intro i hi
  have hi : i < 8 := by simpa using hi
  congr 2
  match i, hi with
  | 0, _ | 1, _ | 2, _ | 3, _ | 4, _ | 5, _ | 6, _ | 7, _ => omega
theorem high8 (X H L : Nat) (h : X = H * 18446744073709551616 + L) (hL : L < 18446744073709551616) (k : Nat) : X / 256 ^ (8 + k) = H / 256 ^ k := by
  rw [Nat.pow_add, ← Nat.div_div_eq_div_mul, show X / 256 ^ 8 = H by omega]

set_option maxHeartbeats 1000000 in
theorem bytes_any (ah al : Int) (w : World) (h0 : -9223372036854775808 ≤ ah) (h1 : ah ≤ 9223372036854775807) (l0 : 0 ≤ al) (l1 : al ≤ 18446744073709551615) :
    Calls Try.prog 34 #[.agg #[.int .i64 ah, .int .u64 al]] w fun e w' =>
      ∃ v, e = .returned v ∧ w'.ownsRow w.heap.size 3 1 v 16 (bts (wv ah al % 340282366920938463463374607431768211456).toNat 16) ∧ Below w.heap.size w w' := by
  obtain ⟨i0, hi, hz0, hz1, hz2⟩ := info_parts infoInt
  obtain ⟨X, hX⟩ : ∃ X : Nat, (X : Int) = wv ah al % 340282366920938463463374607431768211456 := ⟨(wv ah al % 340282366920938463463374607431768211456).toNat, by omega⟩
  rw [← hX, Int.toNat_natCast]
  obtain ⟨H, hH⟩ : ∃ H : Nat, IntKind.u64.wrap ah = (H : Int) := ⟨(IntKind.u64.wrap ah).toNat, by rw [IntKind.wrap_u64]; omega⟩
  obtain ⟨L, rfl⟩ := Int.eq_ofNat_of_zero_le l0
  have hHX : X = H * 18446744073709551616 + L := by
    rw [IntKind.wrap_u64] at hH; unfold wv at hX; omega
  have hH1 : H ≤ 18446744073709551615 := by rw [IntKind.wrap_u64] at hH; omega
  have HX : Hid (X = H * 18446744073709551616 + L) := hHX
  clear hX hHX
  go_enter Try.func34, Try.ntmps34
  go_wp2_with fail
  clear hH
  go_loopw [3, 4, 6] (fun v lo i wr => ∃ k y : Nat, k ≤ 8 ∧ i = .int .i64 (k : Int) ∧ lo = .int .u64 (y : Int) ∧ y = L / 256 ^ k ∧ wr.ownsRow w.heap.size 3 1 v k (bts L k) ∧ Below w.heap.size w wr) (fun _ _ i _ => 8 - (intOf i).toNat)
  case atStart => exact ⟨0, L, by omega, rfl, rfl, by simp, World.ownsRow_nil _ _ _ _, ab_alloc (Below.refl _ _) _⟩
  case round =>
    obtain ⟨k, y, hk, rfl, rfl, hy, hown, hnx⟩ := hrel
    have hyl : y ≤ 18446744073709551615 := by have := Nat.div_le_self L (256 ^ k); omega
    have HY : Hid (y = L / 256 ^ k) := hy
    clear hy
    by_cases c : k < 8
    · go_wp2_with (at_builtin; refine wpList_append_own _ rfl _ _ 38 rfl w.heap.size 3 i0 (.int .i64 0) 1 8 Try.underlying38 hi hz0 hz1 hz2 rfl (by decide) _ _ _ rfl (hown.alloc _) ⟨wr.heap.size, 0, none⟩ 1 1 [.int .i64 ((y : Int) % 256)] rfl rfl ?c1 ?c2 ?c3 ?c4 ?c5 ?_)
      case c1 => intro j u hj; match j, hj with | 0, hj => simp at hj; subst hj; simp [Addr.add]
      case c2 => intro u hu; simp at hu; subst hu; rfl
      case c3 => unfold maxLen; omega
      case c4 => omega
      case c5 => have := hnx.size; simp; omega
      intro v' w1 hown' hgrow _
      have hb : Below w.heap.size w w1 := (ab_alloc hnx _).grown hgrow (by have := hnx.size; simp; omega) (fun j hj => (hown.lt j hj).1)
      have R : w1.ownsRow w.heap.size 3 1 v' (k + 1) (bts L (k + 1)) := by
        rw [← bts_succ, ← HY.out]; simpa using hown'
      clear hown' hgrow hown hnx
      go_wp2_with fail
      go_roundw
      case rel => exact ⟨k + 1, y / 256, by omega, by go_num, by go_num, by rw [step256, ← HY.out], R, hb⟩
      case measure => simp [intOf]; omega
    · obtain rfl : k = 8 := by omega
      rw [low8 X H L HX.out (by omega)] at hown
      have HX8 := high8 X H L HX.out (by omega)
      go_wp2_with fail
      clear HY l0 l1 hyl hk c
      obtain ⟨wo, rfl⟩ : ∃ wo : World, wo = wr := ⟨_, rfl⟩
      go_loopw [3, 5, 7] (fun v hi i wr => ∃ k y : Nat, k ≤ 8 ∧ i = .int .i64 (k : Int) ∧ hi = .int .u64 (y : Int) ∧ y = H / 256 ^ k ∧ wr.ownsRow w.heap.size 3 1 v (8 + k) (bts X (8 + k)) ∧ Below w.heap.size w wr) (fun _ _ i _ => 8 - (intOf i).toNat)
      case atStart => exact ⟨0, H, by omega, rfl, rfl, by simp, hown, hnx⟩
      case round =>
        clear hown hnx
        obtain ⟨k, y, hk, rfl, rfl, hy, hown, hnx⟩ := hrel
        have hyl : y ≤ 18446744073709551615 := by have := Nat.div_le_self H (256 ^ k); omega
        have HY : Hid (y = H / 256 ^ k) := hy
        clear hy
        by_cases c : k < 8
        · go_wp2_with (at_builtin; refine wpList_append_own _ rfl _ _ 38 rfl w.heap.size 3 i0 (.int .i64 0) 1 8 Try.underlying38 hi hz0 hz1 hz2 rfl (by decide) _ _ _ rfl (hown.alloc _) ⟨wr.heap.size, 0, none⟩ 1 1 [.int .i64 ((y : Int) % 256)] rfl rfl ?c1 ?c2 ?c3 ?c4 ?c5 ?_)
          case c1 => intro j u hj; match j, hj with | 0, hj => simp at hj; subst hj; simp [Addr.add]
          case c2 => intro u hu; simp at hu; subst hu; rfl
          case c3 => unfold maxLen; omega
          case c4 => omega
          case c5 => have := hnx.size; simp; omega
          intro v' w1 hown' hgrow _
          have hb : Below w.heap.size w w1 := (ab_alloc hnx _).grown hgrow (by have := hnx.size; simp; omega) (fun j hj => (hown.lt j hj).1)
          have R : w1.ownsRow w.heap.size 3 1 v' (8 + (k + 1)) (bts X (8 + (k + 1))) := by
            rw [← Nat.add_assoc, ← bts_succ, HX8 k, ← HY.out]; simpa using hown'
          clear hown' hgrow hown hnx
          go_wp2_with fail
          go_roundw
          case rel => (repeat apply Exists.intro); exact ⟨⟨k + 1, y / 256, by omega, by go_num, by go_num, by rw [step256, ← HY.out], R, hb⟩, rfl⟩
          case measure => simp [intOf]; omega
        · obtain rfl : k = 8 := by omega
          go_wp2_with fail
          go_ret
          exact ⟨_, rfl, hown, hnx⟩

/-- Sixteen cells at the head of a block that may be written. -/
def Row16 (w : World) (g : Nat) (f : Nat → Int) : Prop := g < w.heap.size ∧ (∀ i, i < 16 → w.cell? ⟨g, i, none⟩ = some (.int .i64 (f i))) ∧ ∀ i, i < 16 → w.frozen? ⟨g, i, none⟩ = false

theorem own16 {w : World} {B x : Nat} {v : Value} (h : w.ownsRow B 3 1 v 16 (bts x 16)) :
    ∃ g cap, v = .slice (some ⟨g, 0, none⟩) 16 cap ∧ 16 ≤ cap ∧ cap ≤ maxLen ∧ B ≤ g ∧ Row16 w g (fun i => ((x / 256 ^ i % 256 : Nat) : Int)) := by
  obtain ⟨hl, ⟨rfl, h0⟩ | ⟨g, cap, cur, rfl, hg, hh, hc, hm, hs, ht⟩⟩ := h
  · omega
  · have hlt : g < w.heap.size := by
      rcases Nat.lt_or_ge g w.heap.size with d | d
      · exact d
      · rw [Array.getElem?_eq_none d] at hh; cases hh
    refine ⟨g, cap, rfl, hc, hm, hg, hlt, ?_, ?_⟩
    · intro i hi
      have e : cur.toList[i]? = (bts x 16)[i]? := by
        rw [← ht, List.getElem?_take_of_lt (by omega)]
      unfold World.cell?
      simp only [hh, Option.isSome_none, Bool.false_eq_true, if_false]
      rw [← Array.getElem?_toList, e]
      simp [bts, hi]
    · intro i hi
      unfold World.frozen?
      simp [hh]
end Go.Proofs.Ytnppdachbfcfkaa
