/-
  frame's small functions: turn, unturn, read, spell, Sum; bytes.Clone.
  frame.number and frame.inside.
  frame.Put, frame.Take, frame.Wrap.
-/
import Derived.Test.YtoeilckeebojmaaPk22
import Derived.Laws.BitsAllLaws
import Derived.Test.YtoeilckeebojmaaPk11
namespace Go.Proofs.Ytoeilckeebojmaa
set_option maxRecDepth 100000
open Go.RowKit
set_option linter.unusedVariables false

theorem i64_xor0 (x : Int) (h0 : -9223372036854775808 ≤ x) (h1 : x ≤ 9223372036854775807) : bits .xor .i64 x 0 = x := by
  show IntKind.i64.wrap ((BitVec.ofInt 64 x ^^^ BitVec.ofInt 64 0).toNat : Int) = _
  rw [show BitVec.ofInt 64 0 = 0#64 from by decide, BitVec.xor_zero, BitVec.toNat_ofInt]
  simp [IntKind.wrap, IntKind.bits, IntKind.signed]
  omega
theorem i64_xor1 (x : Int) (h0 : -9223372036854775808 ≤ x) (h1 : x ≤ 9223372036854775807) : bits .xor .i64 x (-1) = -1 - x := by
  show IntKind.i64.wrap ((BitVec.ofInt 64 x ^^^ BitVec.ofInt 64 (-1)).toNat : Int) = _
  rw [show BitVec.ofInt 64 (-1) = BitVec.allOnes 64 from by decide, BitVec.xor_allOnes, BitVec.toNat_not, BitVec.toNat_ofInt]
  simp [IntKind.wrap, IntKind.bits, IntKind.signed]
  omega
theorem turned (n : Int) (h0 : -9223372036854775808 ≤ n) (h1 : n ≤ 9223372036854775807) : IntKind.u64.wrap (bits .xor .i64 (wrap64 (n * 2)) (n / 9223372036854775808)) = ((zig n : Nat) : Int) := by
  have hw : -9223372036854775808 ≤ wrap64 (n * 2) ∧ wrap64 (n * 2) ≤ 9223372036854775807 := by unfold wrap64; omega
  unfold zig
  by_cases c : n < 0
  · have e : n / 9223372036854775808 = -1 := by omega
    rw [e, i64_xor1 _ hw.1 hw.2, if_pos c, IntKind.wrap_u64]
    unfold wrap64; omega
  · have e : n / 9223372036854775808 = 0 := by omega
    rw [e, i64_xor0 _ hw.1 hw.2, if_neg c, IntKind.wrap_u64]
    unfold wrap64; omega
theorem unturned (u : Nat) (h : u < 18446744073709551616) : bits .xor .i64 ((u : Int) / 2) (wrap64 (-wrap64 (bits .and .u64 (u : Int) 1))) = unz u := by
  have e : bits .and .u64 (u : Int) 1 = ((u % 2 : Nat) : Int) := by
    rw [← nat_mask1]
    exact u64_and_nat u 1 h (by omega)
  rw [e]
  unfold unz
  rcases Nat.mod_two_eq_zero_or_one u with c | c
  · rw [c, if_neg (by omega), show wrap64 (-wrap64 ((0 : Nat) : Int)) = 0 from by unfold wrap64; omega, i64_xor0 _ (by omega) (by omega)]
    omega
  · rw [c, if_pos rfl, show wrap64 (-wrap64 ((1 : Nat) : Int)) = -1 from by unfold wrap64; omega, i64_xor1 _ (by omega) (by omega)]
    omega
theorem read_step (l : List Nat) (k x : Nat) (hk : k < 8) (hb : Byt l) (hx : l[k]? = some x) : bits .or .u64 ((val (l.take k) : Nat) : Int) (IntKind.u64.wrap (((x : Nat) : Int) * 2 ^ (8 * k))) = ((val (l.take (k + 1)) : Nat) : Int) := by
  have hxb := hb.at hx
  have hkl : k < l.length := (List.getElem?_eq_some_iff.1 hx).1
  have hlen : (l.take k).length = k := by rw [List.length_take]; omega
  have hv := val_lt (l.take k) (hb.take k)
  rw [hlen, show (256 : Nat) = 2 ^ 8 from rfl, ← Nat.pow_mul] at hv
  have h56 : 2 ^ (8 * k) ≤ 2 ^ 56 := Nat.pow_le_pow_right (by decide) (by omega)
  have e1 : (((x : Nat) : Int) * 2 ^ (8 * k)) = ((x * 2 ^ (8 * k) : Nat) : Int) := by rw [Int.natCast_mul, Int.natCast_pow]; rfl
  have hlt : x * 2 ^ (8 * k) < 18446744073709551616 := by
    have : x * 2 ^ (8 * k) ≤ 255 * 2 ^ 56 := Nat.mul_le_mul (by omega) h56
    omega
  rw [e1, IntKind.wrap_u64, Int.emod_eq_of_lt (by omega) (by omega), u64_or_nat _ _ (by omega) hlt, Nat.or_comm, nat_join (8 * k) _ _ (Nat.mul_mod_left ..) hv]
  congr 1
  rw [List.take_add_one, hx, Option.toList_some, val_snoc, hlen, show (256 : Nat) = 2 ^ 8 from rfl, ← Nat.pow_mul]
  omega
section
variable {ops : Array Oper} {rest : List Oper} {o : Oper} {a : Act} {w : World} {Q : Exit → Act → World → Prop}
/-- A slice of bytes, just made. -/
theorem own_newB (w : World) (xs : List Nat) (n : Nat) (hn : xs.length = n) (hm : n ≤ maxLen) (base : Nat) (hb : base ≤ w.heap.size) : (w.alloc (.cells (bys xs).toArray 5)).ownsRow base 5 1 (.slice (some ⟨w.heap.size, 0, none⟩) n n) n (bys xs) := by
  refine ⟨by rw [bys_len, hn, Nat.mul_one], .inr ⟨w.heap.size, n, (bys xs).toArray, rfl, hb, ?_, Nat.le_refl _, hm, ?_, ?_⟩⟩
  · show (w.heap.push _)[w.heap.size]? = _; simp
  · simp [bys_len, hn]
  · rw [Nat.mul_one, ← hn, ← bys_len xs]; simp
end
theorem spell_step (u k : Nat) (hu : u < 18446744073709551616) : ((u : Nat) : Int) / 2 ^ (8 * k) % 256 = ((u / 256 ^ k % 256 : Nat) : Int) := by
  rw [Int.natCast_emod, Int.natCast_ediv, Int.natCast_pow, show (256 : Nat) = 2 ^ 8 from rfl, Int.natCast_pow, ← Int.pow_mul]
  rfl

theorem sum_step (s x : Nat) (hs : s < 4294967296) (hx : x < 256) : bits .xor .u32 ((s : Nat) : Int) ((x : Nat) : Int) * 16777619 % 4294967296 = ((stp s x : Nat) : Int) := by
  rw [u32_xor_nat s x hs (by omega), stp]
  omega
theorem flat_take (ls : List (List Nat)) (k : Nat) (l : List Nat) (h : ls[k]? = some l) : (ls.take (k + 1)).flatten = (ls.take k).flatten ++ l := by
  rw [List.take_add_one, h, Option.toList_some, List.flatten_append]; simp

end Go.Proofs.Ytoeilckeebojmaa
namespace Go.Proofs.Ytoeilckeebojmaa
set_option maxRecDepth 100000
open Go.RowKit
set_option linter.unusedVariables false

theorem getD_at {l : List Nat} {j : Nat} (h : j < l.length) : l[j]? = some (l.getD j 0) := by
  rw [List.getD_eq_getElem?_getD, List.getElem?_eq_getElem h]; rfl
/-- A part of a slice. -/
theorem Sl.sub {W : World} {q : Option Addr} {n cap : Nat} {l : List Nat} (h : Sl W (.slice q n cap) l) {i j sc : Nat} {v : Value} (hij : i ≤ j) (hjn : j ≤ n) (hsc : sc ≤ cap) (hjc : j ≤ sc) (hv : v = sliced q i j sc 1) : Sl W v ((l.drop i).take (j - i)) := by
  obtain ⟨q', cap', e, h1, h2, h3⟩ := h
  cases e
  have hl : ((l.drop i).take (j - i)).length = j - i := by rw [List.length_take, List.length_drop]; omega
  subst hv
  unfold sliced
  by_cases c : sc = i
  · rw [if_pos c]
    refine ⟨q, sc - i, by rw [hl], by omega, by unfold maxLen at *; omega, fun h0 => ?_⟩
    rw [hl] at h0
    omega
  · rw [if_neg c]
    refine ⟨_, sc - i, by rw [hl], by omega, by unfold maxLen at *; omega, fun h0 => ?_⟩
    rw [hl] at h0
    obtain ⟨g, off, rfl, hg, hr⟩ := h3 (by omega)
    refine ⟨g, off + i, by rw [Option.map_some, Addr.add_mid, Nat.mul_one], hg, brow_take (brow_drop hr i) _⟩
theorem sizeB' (w : World) : (sizeOf 5).run Try.prog w = .ok 1 w := by kernel_rfl
section
variable {ops : Array Oper} {rest : List Oper} {o : Oper} {a : Act} {w : World} {Q : Exit → Act → World → Prop}
end
theorem sliced_form (q : Option Addr) (i j m : Nat) : ∃ q', sliced q i j m 1 = .slice q' (j - i) (m - i) := by
  unfold sliced; exact ⟨_, rfl⟩

section
variable {ops : Array Oper} {rest : List Oper} {o : Oper} {a : Act} {w : World} {Q : Exit → Act → World → Prop}
end

section
variable {ops : Array Oper} {rest : List Oper} {o : Oper} {a : Act} {w : World} {Q : Exit → Act → World → Prop}
end
theorem each1 {w : World} {v : Value} {l : List Nat} (h : Sl w v l) : ∀ (j : Nat) (x : Value) (m : List Nat), [v][j]? = some x → [l][j]? = some m → Sl w x m := by
  intro j x m hx hm
  match j, hx, hm with
  | 0, hx, hm => simp at hx hm; subst hx; subst hm; exact h
theorem each2 {w : World} {v v2 : Value} {l l2 : List Nat} (h : Sl w v l) (h2 : Sl w v2 l2) : ∀ (j : Nat) (x : Value) (m : List Nat), [v, v2][j]? = some x → [l, l2][j]? = some m → Sl w x m := by
  intro j x m hx hm
  match j, hx, hm with
  | 0, hx, hm => simp at hx hm; subst hx; subst hm; exact h
  | 1, hx, hm => simp at hx hm; subst hx; subst hm; exact h2
theorem each3 {w : World} {v v2 v3 : Value} {l l2 l3 : List Nat} (h : Sl w v l) (h2 : Sl w v2 l2) (h3 : Sl w v3 l3) : ∀ (j : Nat) (x : Value) (m : List Nat), [v, v2, v3][j]? = some x → [l, l2, l3][j]? = some m → Sl w x m := by
  intro j x m hx hm
  match j, hx, hm with
  | 0, hx, hm => simp at hx hm; subst hx; subst hm; exact h
  | 1, hx, hm => simp at hx hm; subst hx; subst hm; exact h2
  | 2, hx, hm => simp at hx hm; subst hx; subst hm; exact h3

end Go.Proofs.Ytoeilckeebojmaa
namespace Go.Proofs.Ytoeilckeebojmaa
set_option maxRecDepth 100000
open Go.RowKit
set_option linter.unusedVariables false

/-- A slice of bytes of the call's own. -/
def Ow (W : World) (base : Nat) (v : Value) (l : List Nat) : Prop := W.ownsRow base 5 1 v l.length (bys l)
theorem ow_of {W : World} {base n : Nat} {v : Value} {l : List Nat} (h : W.ownsRow base 5 1 v n (bys l)) : Ow W base v l := by
  have := (own_sl h).1
  unfold Ow
  rw [this]
  exact h
theorem Ow.sl {W : World} {base : Nat} {v : Value} {l : List Nat} (h : Ow W base v l) : Sl W v l := (own_sl h).2
theorem Ow.keep {W W' : World} {base : Nat} {v : Value} {l : List Nat} (h : Ow W base v l) (hb : Below W.heap.size W W') : Ow W' base v l := own_keep h hb
theorem Ow.less {W : World} {base base' : Nat} {v : Value} {l : List Nat} (h : Ow W base v l) (hb : base' ≤ base) : Ow W base' v l := own_less h hb
/-- A slice of numbers, in memory that W has. -/
def Is (W : World) (v : Value) (l : List Int) : Prop := ∃ q cap g off, v = .slice q l.length cap ∧ l.length ≤ cap ∧ cap ≤ 9223372036854775807 ∧ (0 < l.length → q = some ⟨g, off, none⟩) ∧ (0 < l.length → g < W.heap.size) ∧ IRow W g off l
theorem Is.keep {W W' : World} {v : Value} {l : List Int} (h : Is W v l) (hb : Below W.heap.size W W') : Is W' v l := by
  obtain ⟨q, cap, g, off, rfl, h1, h2, h3, h4, h5⟩ := h
  exact ⟨q, cap, g, off, rfl, h1, h2, h3, fun h0 => Nat.lt_of_lt_of_le (h4 h0) hb.size, irow_keep h5 h4 hb⟩
theorem own_is {W : World} {base n : Nat} {v : Value} {l : List Int} (h : W.ownsRow base 3 1 v n (ints l)) : Is W v l := by
  obtain ⟨h1, q, g, cap, rfl, hp, hg, _, _, hc, hm, hr, _⟩ := own_open h (by omega)
  rw [ints_len, Nat.mul_one] at h1
  subst h1
  exact ⟨q, cap, g, 0, rfl, hc, hm, hp, hg, fun j x hx => by rw [Nat.zero_add]; exact hr j _ (by rw [ints_at, hx]; rfl)⟩
/-- All fit. -/
def In64 (l : List Int) : Prop := ∀ x ∈ l, -9223372036854775808 ≤ x ∧ x ≤ 9223372036854775807
theorem numsB_take (l : List Int) (k : Nat) (x : Int) (hx : l[k]? = some x) : numsB (l.take (k + 1)) = numsB (l.take k) ++ numB x := by
  rw [List.take_add_one, hx, Option.toList_some, numsB_snoc]

/-- An error of the program. -/
abbrev Err (n : Int) : Value := .iface 35 (.int .i64 n)
theorem nS_le {l : List Nat} (h : nOK l = true) : nS l ≤ l.length ∧ nS l ≤ 9 ∧ 1 ≤ nS l := by
  have := (nOK_iff l).1 h
  unfold nS
  omega
/-- The lengths of lists, one behind the other. -/
theorem flat_len (ls : List (List Nat)) (k : Nat) (l : List Nat) (h : ls[k]? = some l) : (ls.take (k + 1)).flatten.length = (ls.take k).flatten.length + l.length := by
  rw [flat_take ls k l h, List.length_append]
theorem flat_mono (ls : List (List Nat)) (k : Nat) : (ls.take k).flatten.length ≤ ls.flatten.length := by
  have : ls.flatten = (ls.take k).flatten ++ (ls.drop k).flatten := by rw [← List.flatten_append, List.take_append_drop]
  rw [this, List.length_append]
  omega
theorem flat_byt {ls : List (List Nat)} (h : ∀ l ∈ ls, Byt l) : Byt ls.flatten := by
  intro x hx
  obtain ⟨l, hl, h1⟩ := List.mem_flatten.1 hx
  exact h l hl x h1
theorem ow_empty {W : World} {base : Nat} {v : Value} (h : W.ownsRow base 5 1 v 0 []) : Ow W base v [] := h
end Go.Proofs.Ytoeilckeebojmaa
