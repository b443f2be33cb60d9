/-
  The text of a number is parsed back to it; no program in sight.
-/
import Derived.Test.YtahpnkdofnnolabWalk6
namespace Go.Proofs.Ytahpnkdofnnolab
set_option linter.unusedVariables false

def toB (l : List Int) : List UInt8 := l.map fun n => UInt8.ofNat n.toNat
def dl (N k : Nat) : List Int := (List.range k).map fun i => 48 + ((N / 10 ^ (k - 1 - i) % 10 : Nat) : Int)
theorem dl_succ (N k : Nat) : dl N (k + 1) = dl (N / 10) k ++ [48 + ((N % 10 : Nat) : Int)] := by
  unfold dl
  rw [List.range_succ, List.map_append]
  congr 1
  · apply List.map_congr_left
    intro i hi
    have hi : i < k := by simpa using hi
    rw [show k + 1 - 1 - i = (k - 1 - i) + 1 by omega, ten_first]
  · simp
theorem byte_digit (d : Nat) (h : d < 10) : ((UInt8.ofNat (48 + (d : Int)).toNat).toNat : Int) = 48 + d := by
  have : (48 + (d : Int)).toNat = 48 + d := by omega
  rw [this, UInt8.toNat_ofNat']; omega
theorem pval_dl : ∀ (k N : Nat), N / 10 ^ k = 0 → pval (toB (dl N k)) = N
  | 0, N, h => by
    have : N = 0 := by simpa using h
    subst this; rfl
  | k + 1, N, h => by
    rw [dl_succ]
    unfold toB
    rw [List.map_append]
    have ih := pval_dl k (N / 10) (by rw [← ten_first]; exact h)
    unfold toB at ih
    simp only [List.map_cons, List.map_nil]
    rw [pval_snoc, ih, byte_digit _ (by omega)]
    omega
theorem nd_zero : ∀ (f N : Nat), N < 10 ^ f → N / 10 ^ (nd f N) = 0
  | 0, N, h => by simpa [nd] using h
  | f + 1, N, h => by
    rw [nd]
    by_cases z : N = 0
    · rw [if_pos z]; subst z; rfl
    · rw [if_neg z, ten_first]
      exact nd_zero f (N / 10) (by rw [Nat.pow_succ] at h; omega)
theorem nd_le : ∀ (f k N : Nat), N < 10 ^ k → nd f N ≤ k
  | 0, k, N, h => by simp [nd]
  | f + 1, 0, N, h => by
    have : N = 0 := by simpa using h
    subst this; simp [nd]
  | f + 1, k + 1, N, h => by
    rw [nd]
    split
    · omega
    · have := nd_le f k (N / 10) (by rw [Nat.pow_succ] at h; omega)
      omega
theorem ten39 (N : Nat) (h : N ≤ 170141183460469231731687303715884105728) : N < 10 ^ 39 ∧ N < 10 ^ 40 := by
  have e : (10 : Nat) ^ 39 = 1000000000000000000000000000000000000000 := by decide
  have e' : (10 : Nat) ^ 40 = 10000000000000000000000000000000000000000 := by decide
  omega
theorem strOfNums_list (l : List Int) : (strOfNums l).data.toList = toB l := rfl
theorem textOf_nz (x : Int) (h : x ≠ 0) : textOf x = (if x < 0 then [45] else []) ++ dl x.natAbs (nd 40 x.natAbs) := by
  unfold textOf dl; rw [if_neg h]
theorem dl_len (N k : Nat) : (dl N k).length = k := by simp [dl]
theorem dl_head (N k : Nat) (hk : 1 ≤ k) : ∃ d : Nat, d < 10 ∧ (dl N k).head? = some (48 + (d : Int)) := by
  cases k with
  | zero => omega
  | succ k => exact ⟨N / 10 ^ (k + 1 - 1 - 0) % 10, by omega, by unfold dl; rw [List.range_succ_eq_map]; rfl⟩

theorem text_size (x : Int) (h0 : -170141183460469231731687303715884105728 ≤ x) (h1 : x < 170141183460469231731687303715884105728) : (strOfNums (textOf x)).size ≤ 40 := by
  rw [strOfNums_size]
  by_cases z : x = 0
  · subst z; decide
  · rw [textOf_nz x z, List.length_append, dl_len]
    have := nd_le 40 39 x.natAbs (ten39 _ (by omega)).1
    split <;> simp <;> omega

theorem text_parse (x : Int) (h0 : -170141183460469231731687303715884105728 ≤ x) (h1 : x < 170141183460469231731687303715884105728) :
    pX (strOfNums (textOf x)) (tailOf (strOfNums (textOf x))) = x := by
  by_cases z : x = 0
  · subst z; decide +kernel
  · have hz := nd_zero 40 x.natAbs (ten39 _ (by omega)).2
    have hn : 1 ≤ nd 40 x.natAbs := by
      rcases Nat.eq_zero_or_pos (nd 40 x.natAbs) with e | e
      · rw [e] at hz; simp at hz; omega
      · exact e
    have hp := pval_dl _ _ hz
    have e := textOf_nz x z
    generalize nd 40 x.natAbs = k at hz hn hp e
    rw [e]
    by_cases sg : x < 0
    · rw [if_pos sg]
      have hl : (strOfNums ([45] ++ dl x.natAbs k)).data.toList = 45 :: toB (dl x.natAbs k) := rfl
      have hs : (strOfNums ([45] ++ dl x.natAbs k)).size = k + 1 := by rw [strOfNums_size]; simp [dl_len]
      have hh : (strOfNums ([45] ++ dl x.natAbs k)).data.toList.head? = some 45 := by rw [hl]; rfl
      unfold tailOf
      rw [if_pos hh]
      unfold pX
      rw [if_pos (by rw [ByteArray.size_extract, hs]; omega), extract_list, hl, hs]
      simp only [List.drop_succ_cons, List.drop_zero]
      rw [List.take_of_length_le (by simp [toB, dl_len]), hp]
      omega
    · rw [if_neg sg, List.nil_append]
      obtain ⟨d, hd, hh⟩ := dl_head x.natAbs k hn
      have hl : (strOfNums (dl x.natAbs k)).data.toList = toB (dl x.natAbs k) := rfl
      have hne : (strOfNums (dl x.natAbs k)).data.toList.head? ≠ some 45 := by
        rw [hl]; unfold toB; rw [List.head?_map, hh]
        intro c
        simp only [Option.map_some, Option.some.injEq] at c
        have := byte_digit d hd
        rw [c] at this
        have : ((45 : UInt8).toNat : Int) = 45 := rfl
        omega
      unfold tailOf
      rw [if_neg hne]
      unfold pX
      rw [if_neg (by omega), hl, hp]
      omega
theorem text_ok (x : Int) (h0 : -170141183460469231731687303715884105728 ≤ x) (h1 : x < 170141183460469231731687303715884105728) :
    pB (strOfNums (textOf x)) (tailOf (strOfNums (textOf x))) = true ∧ pH (strOfNums (textOf x)) (tailOf (strOfNums (textOf x))) = wh x ∧ pL (strOfNums (textOf x)) (tailOf (strOfNums (textOf x))) = wl x := by
  have e := text_parse x h0 h1
  have b : pB (strOfNums (textOf x)) (tailOf (strOfNums (textOf x))) = true := by
    unfold pB; rw [e, wv_same x h0 h1]; simp
  refine ⟨b, ?_, ?_⟩
  · unfold pH; rw [b, e]; rfl
  · unfold pL; rw [b, e]; rfl
end Go.Proofs.Ytahpnkdofnnolab
