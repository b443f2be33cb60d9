/-
  frame's small functions: turn, unturn, read, spell, Sum; bytes.Clone.
  frame.number and frame.inside.
  frame.Put, frame.Take, frame.Wrap.
  Slices that are each its own; frame.Split, frame.Unwrap, frame.Nums.
  append of numbers onto an own slice of numbers, and where it lies then.
  Nothing but these blocks has turned; what stays then.
  Parts of slices of numbers, at one operation.
  The numbers that bytes consist of: frame.Nums.
  frame.Unwrap.
-/
import Derived.Test.YtfnageillhpjpaaPk23
import Derived.Laws.BitsAllLaws
import Derived.Test.YtfnageillhpjpaaPk13
import Derived.Test.YtfnageillhpjpaaPk05
import Derived.Test.YtfnageillhpjpaaPk06
import Derived.Test.YtfnageillhpjpaaPk04
namespace Go.Proofs.Ytfnageillhpjpaa
set_option maxRecDepth 100000
open Go.RowKit
set_option linter.unusedVariables false

theorem i64_xor0 (x : Int) (h0 : -9223372036854775808 ≤ x) (h1 : x ≤ 9223372036854775807) : bits .xor .i64 x 0 = x := by
  show IntKind.i64.wrap ((BitVec.ofInt 64 x ^^^ BitVec.ofInt 64 0).toNat : Int) = _
  rw [show BitVec.ofInt 64 0 = 0#64 from by decide, BitVec.xor_zero, BitVec.toNat_ofInt]
  simp [IntKind.wrap, IntKind.bits, IntKind.signed]
  omega
theorem i64_xor1 (x : Int) (h0 : -9223372036854775808 ≤ x) (h1 : x ≤ 9223372036854775807) : bits .xor .i64 x (-1) = -1 - x := by
  show IntKind.i64.wrap ((BitVec.ofInt 64 x ^^^ BitVec.ofInt 64 (-1)).toNat : Int) = _
  rw [show BitVec.ofInt 64 (-1) = BitVec.allOnes 64 from by decide, BitVec.xor_allOnes, BitVec.toNat_not, BitVec.toNat_ofInt]
  simp [IntKind.wrap, IntKind.bits, IntKind.signed]
  omega
theorem turned (n : Int) (h0 : -9223372036854775808 ≤ n) (h1 : n ≤ 9223372036854775807) : IntKind.u64.wrap (bits .xor .i64 (wrap64 (n * 2)) (n / 9223372036854775808)) = ((zig n : Nat) : Int) := by
  have hw : -9223372036854775808 ≤ wrap64 (n * 2) ∧ wrap64 (n * 2) ≤ 9223372036854775807 := by unfold wrap64; omega
  unfold zig
  by_cases c : n < 0
  · have e : n / 9223372036854775808 = -1 := by omega
    rw [e, i64_xor1 _ hw.1 hw.2, if_pos c, IntKind.wrap_u64]
    unfold wrap64; omega
  · have e : n / 9223372036854775808 = 0 := by omega
    rw [e, i64_xor0 _ hw.1 hw.2, if_neg c, IntKind.wrap_u64]
    unfold wrap64; omega
theorem unturned (u : Nat) (h : u < 18446744073709551616) : bits .xor .i64 ((u : Int) / 2) (wrap64 (-wrap64 (bits .and .u64 (u : Int) 1))) = unz u := by
  have e : bits .and .u64 (u : Int) 1 = ((u % 2 : Nat) : Int) := by
    rw [← nat_mask1]
    exact u64_and_nat u 1 h (by omega)
  rw [e]
  unfold unz
  rcases Nat.mod_two_eq_zero_or_one u with c | c
  · rw [c, if_neg (by omega), show wrap64 (-wrap64 ((0 : Nat) : Int)) = 0 from by unfold wrap64; omega, i64_xor0 _ (by omega) (by omega)]
    omega
  · rw [c, if_pos rfl, show wrap64 (-wrap64 ((1 : Nat) : Int)) = -1 from by unfold wrap64; omega, i64_xor1 _ (by omega) (by omega)]
    omega
theorem read_step (l : List Nat) (k x : Nat) (hk : k < 8) (hb : Byt l) (hx : l[k]? = some x) : bits .or .u64 ((val (l.take k) : Nat) : Int) (IntKind.u64.wrap (((x : Nat) : Int) * 2 ^ (8 * k))) = ((val (l.take (k + 1)) : Nat) : Int) := by
  have hxb := hb.at hx
  have hkl : k < l.length := (List.getElem?_eq_some_iff.1 hx).1
  have hlen : (l.take k).length = k := by rw [List.length_take]; omega
  have hv := val_lt (l.take k) (hb.take k)
  rw [hlen, show (256 : Nat) = 2 ^ 8 from rfl, ← Nat.pow_mul] at hv
  have h56 : 2 ^ (8 * k) ≤ 2 ^ 56 := Nat.pow_le_pow_right (by decide) (by omega)
  have e1 : (((x : Nat) : Int) * 2 ^ (8 * k)) = ((x * 2 ^ (8 * k) : Nat) : Int) := by rw [Int.natCast_mul, Int.natCast_pow]; rfl
  have hlt : x * 2 ^ (8 * k) < 18446744073709551616 := by
    have : x * 2 ^ (8 * k) ≤ 255 * 2 ^ 56 := Nat.mul_le_mul (by omega) h56
    omega
  rw [e1, IntKind.wrap_u64, Int.emod_eq_of_lt (by omega) (by omega), u64_or_nat _ _ (by omega) hlt, Nat.or_comm, nat_join (8 * k) _ _ (Nat.mul_mod_left ..) hv]
  congr 1
  rw [List.take_add_one, hx, Option.toList_some, val_snoc, hlen, show (256 : Nat) = 2 ^ 8 from rfl, ← Nat.pow_mul]
  omega
section
variable {ops : Array Oper} {rest : List Oper} {o : Oper} {a : Act} {w : World} {Q : Exit → Act → World → Prop}
/-- A slice of bytes, just made. -/
theorem own_newB (w : World) (xs : List Nat) (n : Nat) (hn : xs.length = n) (hm : n ≤ maxLen) (base : Nat) (hb : base ≤ w.heap.size) : (w.alloc (.cells (bys xs).toArray 5)).ownsRow base 5 1 (.slice (some ⟨w.heap.size, 0, none⟩) n n) n (bys xs) := by
  refine ⟨by rw [bys_len, hn, Nat.mul_one], .inr ⟨w.heap.size, n, (bys xs).toArray, rfl, hb, ?_, Nat.le_refl _, hm, ?_, ?_⟩⟩
  · show (w.heap.push _)[w.heap.size]? = _; simp
  · simp [bys_len, hn]
  · rw [Nat.mul_one, ← hn, ← bys_len xs]; simp
end
theorem spell_step (u k : Nat) (hu : u < 18446744073709551616) : ((u : Nat) : Int) / 2 ^ (8 * k) % 256 = ((u / 256 ^ k % 256 : Nat) : Int) := by
  rw [Int.natCast_emod, Int.natCast_ediv, Int.natCast_pow, show (256 : Nat) = 2 ^ 8 from rfl, Int.natCast_pow, ← Int.pow_mul]
  rfl

theorem sum_step (s x : Nat) (hs : s < 4294967296) (hx : x < 256) : bits .xor .u32 ((s : Nat) : Int) ((x : Nat) : Int) * 16777619 % 4294967296 = ((stp s x : Nat) : Int) := by
  rw [u32_xor_nat s x hs (by omega), stp]
  omega
theorem flat_take (ls : List (List Nat)) (k : Nat) (l : List Nat) (h : ls[k]? = some l) : (ls.take (k + 1)).flatten = (ls.take k).flatten ++ l := by
  rw [List.take_add_one, h, Option.toList_some, List.flatten_append]; simp

end Go.Proofs.Ytfnageillhpjpaa
namespace Go.Proofs.Ytfnageillhpjpaa
set_option maxRecDepth 100000
open Go.RowKit
set_option linter.unusedVariables false

theorem getD_at {l : List Nat} {j : Nat} (h : j < l.length) : l[j]? = some (l.getD j 0) := by
  rw [List.getD_eq_getElem?_getD, List.getElem?_eq_getElem h]; rfl
/-- A part of a slice. -/
theorem Sl.sub {W : World} {q : Option Addr} {n cap : Nat} {l : List Nat} (h : Sl W (.slice q n cap) l) {i j sc : Nat} {v : Value} (hij : i ≤ j) (hjn : j ≤ n) (hsc : sc ≤ cap) (hjc : j ≤ sc) (hv : v = sliced q i j sc 1) : Sl W v ((l.drop i).take (j - i)) := by
  obtain ⟨q', cap', e, h1, h2, h3⟩ := h
  cases e
  have hl : ((l.drop i).take (j - i)).length = j - i := by rw [List.length_take, List.length_drop]; omega
  subst hv
  unfold sliced
  by_cases c : sc = i
  · rw [if_pos c]
    refine ⟨q, sc - i, by rw [hl], by omega, by unfold maxLen at *; omega, fun h0 => ?_⟩
    rw [hl] at h0
    omega
  · rw [if_neg c]
    refine ⟨_, sc - i, by rw [hl], by omega, by unfold maxLen at *; omega, fun h0 => ?_⟩
    rw [hl] at h0
    obtain ⟨g, off, rfl, hg, hr⟩ := h3 (by omega)
    refine ⟨g, off + i, by rw [Option.map_some, Addr.add_mid, Nat.mul_one], hg, brow_take (brow_drop hr i) _⟩
theorem sizeB' (w : World) : (sizeOf 5).run Try.prog w = .ok 1 w := by kernel_rfl
section
variable {ops : Array Oper} {rest : List Oper} {o : Oper} {a : Act} {w : World} {Q : Exit → Act → World → Prop}
end
theorem sliced_form (q : Option Addr) (i j m : Nat) : ∃ q', sliced q i j m 1 = .slice q' (j - i) (m - i) := by
  unfold sliced; exact ⟨_, rfl⟩

section
variable {ops : Array Oper} {rest : List Oper} {o : Oper} {a : Act} {w : World} {Q : Exit → Act → World → Prop}
end

section
variable {ops : Array Oper} {rest : List Oper} {o : Oper} {a : Act} {w : World} {Q : Exit → Act → World → Prop}
end
theorem each1 {w : World} {v : Value} {l : List Nat} (h : Sl w v l) : ∀ (j : Nat) (x : Value) (m : List Nat), [v][j]? = some x → [l][j]? = some m → Sl w x m := by
  intro j x m hx hm
  match j, hx, hm with
  | 0, hx, hm => simp at hx hm; subst hx; subst hm; exact h
theorem each2 {w : World} {v v2 : Value} {l l2 : List Nat} (h : Sl w v l) (h2 : Sl w v2 l2) : ∀ (j : Nat) (x : Value) (m : List Nat), [v, v2][j]? = some x → [l, l2][j]? = some m → Sl w x m := by
  intro j x m hx hm
  match j, hx, hm with
  | 0, hx, hm => simp at hx hm; subst hx; subst hm; exact h
  | 1, hx, hm => simp at hx hm; subst hx; subst hm; exact h2
theorem each3 {w : World} {v v2 v3 : Value} {l l2 l3 : List Nat} (h : Sl w v l) (h2 : Sl w v2 l2) (h3 : Sl w v3 l3) : ∀ (j : Nat) (x : Value) (m : List Nat), [v, v2, v3][j]? = some x → [l, l2, l3][j]? = some m → Sl w x m := by
  intro j x m hx hm
  match j, hx, hm with
  | 0, hx, hm => simp at hx hm; subst hx; subst hm; exact h
  | 1, hx, hm => simp at hx hm; subst hx; subst hm; exact h2
  | 2, hx, hm => simp at hx hm; subst hx; subst hm; exact h3

end Go.Proofs.Ytfnageillhpjpaa
namespace Go.Proofs.Ytfnageillhpjpaa
set_option maxRecDepth 100000
open Go.RowKit
set_option linter.unusedVariables false

/-- A slice of bytes of the call's own. -/
def Ow (W : World) (base : Nat) (v : Value) (l : List Nat) : Prop := W.ownsRow base 5 1 v l.length (bys l)
theorem ow_of {W : World} {base n : Nat} {v : Value} {l : List Nat} (h : W.ownsRow base 5 1 v n (bys l)) : Ow W base v l := by
  have := (own_sl h).1
  unfold Ow
  rw [this]
  exact h
theorem Ow.sl {W : World} {base : Nat} {v : Value} {l : List Nat} (h : Ow W base v l) : Sl W v l := (own_sl h).2
theorem Ow.keep {W W' : World} {base : Nat} {v : Value} {l : List Nat} (h : Ow W base v l) (hb : Below W.heap.size W W') : Ow W' base v l := own_keep h hb
theorem Ow.less {W : World} {base base' : Nat} {v : Value} {l : List Nat} (h : Ow W base v l) (hb : base' ≤ base) : Ow W base' v l := own_less h hb
/-- A slice of numbers, in memory that W has. -/
def Is (W : World) (v : Value) (l : List Int) : Prop := ∃ q cap g off, v = .slice q l.length cap ∧ l.length ≤ cap ∧ cap ≤ 9223372036854775807 ∧ (0 < l.length → q = some ⟨g, off, none⟩) ∧ (0 < l.length → g < W.heap.size) ∧ IRow W g off l
theorem Is.keep {W W' : World} {v : Value} {l : List Int} (h : Is W v l) (hb : Below W.heap.size W W') : Is W' v l := by
  obtain ⟨q, cap, g, off, rfl, h1, h2, h3, h4, h5⟩ := h
  exact ⟨q, cap, g, off, rfl, h1, h2, h3, fun h0 => Nat.lt_of_lt_of_le (h4 h0) hb.size, irow_keep h5 h4 hb⟩
theorem own_is {W : World} {base n : Nat} {v : Value} {l : List Int} (h : W.ownsRow base 3 1 v n (ints l)) : Is W v l := by
  obtain ⟨h1, q, g, cap, rfl, hp, hg, _, _, hc, hm, hr, _⟩ := own_open h (by omega)
  rw [ints_len, Nat.mul_one] at h1
  subst h1
  exact ⟨q, cap, g, 0, rfl, hc, hm, hp, hg, fun j x hx => by rw [Nat.zero_add]; exact hr j _ (by rw [ints_at, hx]; rfl)⟩
/-- All fit. -/
def In64 (l : List Int) : Prop := ∀ x ∈ l, -9223372036854775808 ≤ x ∧ x ≤ 9223372036854775807
theorem numsB_take (l : List Int) (k : Nat) (x : Int) (hx : l[k]? = some x) : numsB (l.take (k + 1)) = numsB (l.take k) ++ numB x := by
  rw [List.take_add_one, hx, Option.toList_some, numsB_snoc]

/-- An error of the program. -/
abbrev Err (n : Int) : Value := .iface 35 (.int .i64 n)
theorem nS_le {l : List Nat} (h : nOK l = true) : nS l ≤ l.length ∧ nS l ≤ 9 ∧ 1 ≤ nS l := by
  have := (nOK_iff l).1 h
  unfold nS
  omega
/-- The lengths of lists, one behind the other. -/
theorem flat_len (ls : List (List Nat)) (k : Nat) (l : List Nat) (h : ls[k]? = some l) : (ls.take (k + 1)).flatten.length = (ls.take k).flatten.length + l.length := by
  rw [flat_take ls k l h, List.length_append]
theorem flat_mono (ls : List (List Nat)) (k : Nat) : (ls.take k).flatten.length ≤ ls.flatten.length := by
  have : ls.flatten = (ls.take k).flatten ++ (ls.drop k).flatten := by rw [← List.flatten_append, List.take_append_drop]
  rw [this, List.length_append]
  omega
theorem flat_byt {ls : List (List Nat)} (h : ∀ l ∈ ls, Byt l) : Byt ls.flatten := by
  intro x hx
  obtain ⟨l, hl, h1⟩ := List.mem_flatten.1 hx
  exact h l hl x h1
theorem ow_empty {W : World} {base : Nat} {v : Value} (h : W.ownsRow base 5 1 v 0 []) : Ow W base v [] := h
end Go.Proofs.Ytfnageillhpjpaa
namespace Go.Proofs.Ytfnageillhpjpaa
set_option maxRecDepth 100000
open Go.RowKit
set_option linter.unusedVariables false

theorem Ow.lt {W : World} {base : Nat} {v : Value} {l : List Nat} (h : Ow W base v l) : ∀ k, v.ownBlock = some k → base ≤ k ∧ k < W.heap.size := World.ownsRow.lt h
theorem Ow.kept {W W' : World} {base : Nat} {v x : Value} {l : List Nat} (h : Ow W base v l) (hg : W.grownBy W' x.ownBlock) (hs : Sep v x) : Ow W' base v l := World.ownsRow.kept h hg hs.row
/-- Slices of bytes of the call's own, no two of one block. -/
structure Bag (W : World) (base : Nat) (vs : List Value) (ls : List (List Nat)) : Prop where
  len : vs.length = ls.length
  own : ∀ (j : Nat) (v : Value) (l : List Nat), vs[j]? = some v → ls[j]? = some l → Ow W base v l
  sep : ∀ (i j : Nat) (v u : Value), i ≠ j → vs[i]? = some v → vs[j]? = some u → Sep v u
theorem Bag.lt {W : World} {base : Nat} {vs : List Value} {ls : List (List Nat)} (h : Bag W base vs ls) {j : Nat} {v : Value} (hv : vs[j]? = some v) : ∀ k, v.ownBlock = some k → base ≤ k ∧ k < W.heap.size := by
  have hj : j < ls.length := by rw [← h.len]; exact (List.getElem?_eq_some_iff.1 hv).1
  exact (h.own j v _ hv (List.getElem?_eq_getElem hj)).lt
theorem Bag.keep {W W' : World} {base : Nat} {vs : List Value} {ls : List (List Nat)} (h : Bag W base vs ls) (hb : Below W.heap.size W W') : Bag W' base vs ls :=
  ⟨h.len, fun j v l hv hl => (h.own j v l hv hl).keep hb, h.sep⟩
theorem Bag.kept {W W' : World} {base : Nat} {vs : List Value} {ls : List (List Nat)} {x : Value} (h : Bag W base vs ls) (hg : W.grownBy W' x.ownBlock) (hs : ∀ (j : Nat) (v : Value), vs[j]? = some v → Sep v x) : Bag W' base vs ls :=
  ⟨h.len, fun j v l hv hl => (h.own j v l hv hl).kept hg (hs j v hv), h.sep⟩
theorem Bag.nil (W : World) (base : Nat) : Bag W base [] [] := ⟨rfl, fun j v l hv => by simp at hv, fun i j v u _ hv => by simp at hv⟩
theorem snoc_at {α : Type} {l : List α} {x y : α} {j : Nat} (h : (l ++ [x])[j]? = some y) : (j < l.length ∧ l[j]? = some y) ∨ (j = l.length ∧ y = x) := by
  by_cases c : j < l.length
  · rw [List.getElem?_append_left c] at h; exact .inl ⟨c, h⟩
  · rw [List.getElem?_append_right (by omega)] at h
    right
    have : j - l.length < [x].length := (List.getElem?_eq_some_iff.1 h).1
    simp at this
    have e : j - l.length = 0 := by omega
    rw [e] at h
    simp at h
    exact ⟨by omega, h.symm⟩
theorem Bag.snoc {W : World} {base : Nat} {vs : List Value} {ls : List (List Nat)} {u : Value} {f : List Nat} (h : Bag W base vs ls) (hu : Ow W base u f) (hs : ∀ (j : Nat) (v : Value), vs[j]? = some v → Sep v u) : Bag W base (vs ++ [u]) (ls ++ [f]) := by
  refine ⟨by simp [h.len], fun j v l hv hl => ?_, fun i j v x hij hv hx => ?_⟩
  · rcases snoc_at hv with ⟨h1, h2⟩ | ⟨h1, h2⟩ <;> rcases snoc_at hl with ⟨h3, h4⟩ | ⟨h3, h4⟩
    · exact h.own j v l h2 h4
    · have := h.len; omega
    · have := h.len; omega
    · subst h2; subst h4; exact hu
  · rcases snoc_at hv with ⟨h1, h2⟩ | ⟨h1, h2⟩ <;> rcases snoc_at hx with ⟨h3, h4⟩ | ⟨h3, h4⟩
    · exact h.sep i j v x hij h2 h4
    · subst h4; exact hs i v h2
    · subst h2; exact (hs j x h4).symm
    · omega
section
variable {ops : Array Oper} {rest : List Oper} {o : Oper} {a : Act} {w : World} {Q : Exit → Act → World → Prop}
end
theorem Ow.form {W : World} {base : Nat} {v : Value} {l : List Nat} (h : Ow W base v l) : ∃ q cap, v = .slice q l.length cap := by
  obtain ⟨q, cap, e, _⟩ := h.sl
  exact ⟨q, cap, e⟩

/-- The number of a slot. -/
def numOf : Value → Nat
  | .int _ n => n.toNat
  | _ => 0
theorem spt_at (l : List Nat) (fs : List (List Nat)) (h : spt l = fs ++ spt (l.drop (spN fs))) (hok : insOK (l.drop (spN fs)) = true) :
    spt l = (fs ++ [insB (l.drop (spN fs))]) ++ spt (l.drop (spN (fs ++ [insB (l.drop (spN fs))]))) := by
  rw [h, spt_go hok, spN_snoc, List.drop_drop, List.append_assoc]; rfl
end Go.Proofs.Ytfnageillhpjpaa
namespace Go.Proofs.Ytfnageillhpjpaa
set_option maxRecDepth 100000
open Go.RowKit
set_option linter.unusedVariables false

/-- What append asks of its source. -/
theorem Is.src {W : World} {v : Value} {l : List Int} (h : Is W v l) : ∃ q cap, v = .slice q l.length cap ∧ (q = none → l.length = 0) ∧ (∀ ad, q = some ad → ∀ j u, (ints l)[j]? = some u → W.cell? (ad.add j) = some u) := by
  obtain ⟨q, cap, g, off, rfl, h1, h2, h3, h4, h5⟩ := h
  refine ⟨q, cap, rfl, fun hq => ?_, fun ad had j u hu => ?_⟩
  · by_cases h0 : 0 < l.length
    · have e := h3 h0
      rw [hq] at e; cases e
    · omega
  · rw [ints_at] at hu
    cases hx : l[j]? with
    | none => rw [hx] at hu; simp at hu
    | some x =>
      rw [hx] at hu
      have e := h3 (by have := (List.getElem?_eq_some_iff.1 hx).1; omega)
      rw [had] at e
      cases e
      rw [Addr.add_mid, h5 j x hx]
      simpa using hu
/-- A slice of numbers of the call's own. -/
def Io (W : World) (base : Nat) (v : Value) (l : List Int) : Prop := W.ownsRow base 3 1 v l.length (ints l)
theorem io_of {W : World} {base n : Nat} {v : Value} {l : List Int} (h : W.ownsRow base 3 1 v n (ints l)) : Io W base v l := by
  have := h.1
  rw [ints_len, Nat.mul_one] at this
  unfold Io
  rw [this]
  exact h
theorem Io.is {W : World} {base : Nat} {v : Value} {l : List Int} (h : Io W base v l) : Is W v l := own_is h
theorem Io.keep {W W' : World} {base : Nat} {v : Value} {l : List Int} (h : Io W base v l) (hb : Below W.heap.size W W') : Io W' base v l := own_keep h hb
theorem Io.less {W : World} {base base' : Nat} {v : Value} {l : List Int} (h : Io W base v l) (hb : base' ≤ base) : Io W base' v l := own_less h hb
theorem Io.lt {W : World} {base : Nat} {v : Value} {l : List Int} (h : Io W base v l) : ∀ k, v.ownBlock = some k → base ≤ k ∧ k < W.heap.size := World.ownsRow.lt h
theorem Io.kept {W W' : World} {base : Nat} {v x : Value} {l : List Int} (h : Io W base v l) (hg : W.grownBy W' x.ownBlock) (hs : Sep v x) : Io W' base v l := World.ownsRow.kept h hg hs.row
/-- Blocks stay apart where one of them grows. -/
theorem sep_at {a b b' : Value} {m : Nat} (h : Sep a b) (hl : ∀ k, a.ownBlock = some k → k < m) (hat : b'.ownBlock = b.ownBlock ∨ b'.ownBlock = some m) : Sep a b' := by
  intro k hk
  rcases hat with e | e
  · rw [e]; exact h k hk
  · rw [e]; intro he; have := hl k hk; simp at he; omega
section
variable {ops : Array Oper} {rest : List Oper} {o : Oper} {a : Act} {w : World} {Q : Exit → Act → World → Prop}
theorem appi_run (A : World) (ty : TypeId) {v vx : Value} {n k : Nat} {l m : List Int} (hown : w.ownsRow A.heap.size 3 1 v n (ints l)) (hsl : Is w vx m) (hm : m.length = k) (h63 : n + k ≤ 1000000) (hA : Below A.heap.size A w) :
    ∃ v' w', (Builtin.append_ #[23, 23] ty #[v, vx]).run Try.prog w = .ok v' w' ∧ w'.ownsRow A.heap.size 3 1 v' (n + k) (ints (l ++ m)) ∧ (v' = .slice none 0 0 ↔ v = .slice none 0 0 ∧ k = 0) ∧ Below A.heap.size A w' ∧ w.grownBy w' v.ownBlock ∧ (v'.ownBlock = v.ownBlock ∨ v'.ownBlock = some w.heap.size) := by
  obtain ⟨i, hi, hz0, hz1, hz2⟩ := info_parts infoInt
  subst hm
  obtain ⟨q, cap, rfl, hq, hsrc⟩ := hsl.src
  cases q with
  | none =>
    have h0 := hq rfl
    have hm0 : m = [] := List.eq_nil_of_length_eq_zero h0
    subst hm0
    exact ⟨v, w, append_none (P := Try.prog) w A.heap.size 23 ty 3 i 1 cap Try.underlying23 hi v n (ints l) hown, by simpa using hown, by simp, hA, ⟨rfl, rfl, rfl, Nat.le_refl _, fun _ _ _ => rfl⟩, .inl rfl⟩
  | some ad =>
    obtain ⟨v', w', hr, h2, h3, h4, h5⟩ := run_append_own_at (P := Try.prog) w A.heap.size 23 ty 3 i _ 1 8 Try.underlying23 hi hz0 hz1 hz2 rfl (by omega) v n (ints l) hown ad m.length cap (ints m) (by rw [ints_len, Nat.mul_one]) (hsrc ad rfl) (ints_one m) (by unfold maxLen; omega) (by omega) hA.size
    refine ⟨v', w', hr, by rw [← ints_append]; exact h2, h4, ?_, h3, h5⟩
    refine hA.grown h3 hA.size (fun r hr => ?_)
    rcases hown.2 with ⟨rfl, _⟩ | ⟨g', cap', cur', rfl, hbg, _⟩
    · cases hr
    · cases hr; exact hbg
theorem app_i (A : World) (hw : Region.wanted o (yielded ops a.tmps) = true) {s x : Operand} (ho : o.op = .call { callee := .builtin .append, args := #[s, x], argTypes := #[23, 23] })
    {v vx : Value} {n k : Nat} {l m : List Int} (hs : a.eval s = v) (hown : w.ownsRow A.heap.size 3 1 v n (ints l)) (hx : a.eval x = vx) (hsl : Is w vx m) (hm : m.length = k) (h63 : n + k ≤ 1000000) (hA : Below A.heap.size A w)
    (h : ∀ v' w', w'.ownsRow A.heap.size 3 1 v' (n + k) (ints (l ++ m)) → (v' = .slice none 0 0 ↔ v = .slice none 0 0 ∧ k = 0) → Below A.heap.size A w' → w.grownBy w' v.ownBlock → (v'.ownBlock = v.ownBlock ∨ v'.ownBlock = some w.heap.size) → wpList Try.prog ops Q rest (a.put o.dst v') w') : wpList Try.prog ops Q (o :: rest) a w := by
  unfold wpList
  rw [if_pos hw]
  left
  obtain ⟨v', w', hr, h1, h2, h3, h4, h5⟩ := appi_run A o.type hown hsl hm h63 hA
  unfold Oper.wp execOp
  simp only [ho, resolve, invoke, builtin, Sem.run_bind, Sem.run_pure, Result.andThen_ok, List.map_toArray, List.map_cons, List.map_nil, hs, hx, hr]
  exact h v' w' h1 h2 h3 h4 h5
/-- An operation that yields, at one operation. -/
theorem valWf {K : Act → World → Prop} (d : Option Tmp) (hd : o.dst = d) (v : Value) (hr : (execOp a.eval o).run Try.prog w = .ok (.value v) w) (h : K (a.put d v) w) : o.wp Try.prog a w K Q := by
  subst hd
  unfold Oper.wp
  rw [hr, Oper.upon_value]
  exact h
/-- A slice of numbers, just made: at one operation. -/
theorem bs_iW {K : Act → World → Prop} (d : Option Tmp) (hd : o.dst = d) {n : Nat} {parts : Array (Nat × Operand)} (ho : o.op = .buildSlice 23 n parts) (xs : List Int) {vs : Array (Nat × Value)} (hl : parts.map (fun (i, x) => (i, a.eval x)) = vs)
    (hrun : (Instr.buildSlice 23 n vs).run Try.prog w = .ok (.slice (some ⟨w.heap.size, 0, none⟩) n n) (w.alloc (.cells (ints xs).toArray 3))) (hn : xs.length = n) (hm : n ≤ maxLen)
    (h : ∀ W', W'.ownsRow w.heap.size 3 1 (.slice (some ⟨w.heap.size, 0, none⟩) n n) n (ints xs) → Below w.heap.size w W' → K (a.put d (.slice (some ⟨w.heap.size, 0, none⟩) n n)) W') : o.wp Try.prog a w K Q := by
  subst hd
  unfold Oper.wp execOp
  simp only [ho, Sem.run_bind, hl, hrun, Result.andThen_ok]
  exact h _ (own_new w xs n hn hm _ (Nat.le_refl _)) ((Below.refl _ _).alloc (Nat.le_refl _) _)
end
end Go.Proofs.Ytfnageillhpjpaa
namespace Go.Proofs.Ytfnageillhpjpaa
open Go.RowKit
set_option linter.unusedVariables false
set_option maxRecDepth 100000

/-- Nothing but these blocks has turned, of those that there were. -/
structure Frm (X : Nat → Prop) (W W' : World) : Prop where
  os : W'.os = W.os
  tape : W'.tape = W.tape
  output : W'.output = W.output
  size : W.heap.size ≤ W'.heap.size
  other : ∀ k, k < W.heap.size → ¬ X k → W'.heap[k]? = W.heap[k]?
theorem Frm.refl (X : Nat → Prop) (W : World) : Frm X W W := ⟨rfl, rfl, rfl, Nat.le_refl _, fun _ _ _ => rfl⟩
theorem Frm.trans {X : Nat → Prop} {A B C : World} (h : Frm X A B) (k : Frm X B C) : Frm X A C :=
  ⟨k.os.trans h.os, k.tape.trans h.tape, k.output.trans h.output, Nat.le_trans h.size k.size, fun i hi hx => (k.other i (Nat.lt_of_lt_of_le hi h.size) hx).trans (h.other i hi hx)⟩
theorem Frm.mono {X Y : Nat → Prop} {A B : World} (h : Frm X A B) (hxy : ∀ k, X k → Y k) : Frm Y A B := ⟨h.os, h.tape, h.output, h.size, fun i hi hy => h.other i hi (fun hx => hy (hxy i hx))⟩
/-- What is new may turn. -/
theorem Frm.young {X Y : Nat → Prop} {A B C : World} (h : Frm X A B) (k : Frm Y B C) (hxy : ∀ k, k < A.heap.size → Y k → X k) : Frm X A C :=
  ⟨k.os.trans h.os, k.tape.trans h.tape, k.output.trans h.output, Nat.le_trans h.size k.size, fun i hi hx => (k.other i (Nat.lt_of_lt_of_le hi h.size) (fun hy => hx (hxy i hi hy))).trans (h.other i hi hx)⟩
theorem frm_below {X : Nat → Prop} {A B : World} (h : Below A.heap.size A B) : Frm X A B := ⟨h.os, h.tape, h.output, h.size, fun i hi _ => h.block i hi⟩
theorem frm_chg {X : Nat → Prop} {A B : World} {b : Nat} (h : Chg b A B) (hb : X b) : Frm X A B := ⟨h.os, h.tape, h.output, Nat.le_of_eq h.size.symm, fun i hi hx => h.other i (fun e => hx (e ▸ hb))⟩
theorem frm_grown {X : Nat → Prop} {A B : World} {b : Nat} (h : A.grownBy B (some b)) (hb : X b) : Frm X A B := ⟨h.os, h.tape, h.output, h.size, fun i hi hx => h.block i hi (fun e => hx (by cases e; exact hb))⟩
theorem Frm.below {X : Nat → Prop} {A B : World} (h : Frm X A B) {n : Nat} (hn : n ≤ A.heap.size) (hx : ∀ k, X k → n ≤ k) : Below n A B := ⟨h.os, h.tape, h.output, h.size, fun i hi => h.other i (Nat.lt_of_lt_of_le hi hn) (fun e => by have := hx i e; omega)⟩
theorem Blk.frm {X : Nat → Prop} {W W' : World} {b : Nat} {vs : Array Value} {t : TypeId} (h : Blk W b vs t) (hf : Frm X W W') (hx : ¬ X b) : Blk W' b vs t := by
  unfold Blk; rw [hf.other b h.lt hx]; exact h
/-- What kind of block it is. -/
def kindR (W : World) (k : Nat) (t : TypeId) : Prop := ∃ cur fr, W.heap[k]? = some (.cells cur t fr)
theorem kindR.uniq {W : World} {k : Nat} {t t' : TypeId} (h : kindR W k t) (h' : kindR W k t') : t = t' := by
  obtain ⟨c, f, e⟩ := h
  obtain ⟨c', f', e'⟩ := h'
  rw [e] at e'
  cases e'
  rfl
theorem Blk.kindR {W : World} {k : Nat} {xs : Array Value} {t : TypeId} (h : Blk W k xs t) : kindR W k t := ⟨xs, _, h⟩
theorem own_kindR {W : World} {B n e s : Nat} {v : Value} {xs : List Value} (h : W.ownsRow B e s v n xs) {k : Nat} (hk : v.ownBlock = some k) : kindR W k e := by
  rcases h.2 with ⟨h2, _⟩ | ⟨g, cap, cur, h2, _, hg, _⟩
  · rw [h2] at hk; cases hk
  · rw [h2] at hk
    have : g = k := by simpa [Value.ownBlock] using hk
    subst this
    exact ⟨cur, _, hg⟩
/-- None of these blocks holds numbers. -/
def NoI (X : Nat → Prop) (W : World) : Prop := ∀ k, X k → ¬ kindR W k 3
theorem Io.frm {X : Nat → Prop} {W W' : World} {B : Nat} {v : Value} {l : List Int} (h : Io W B v l) (hf : Frm X W W') (hx : NoI X W) : Io W' B v l :=
  own_at h fun g hg => hf.other g (h.lt g hg).2 (fun e => hx g e (own_kindR h hg))
end Go.Proofs.Ytfnageillhpjpaa
namespace Go.Proofs.Ytfnageillhpjpaa
set_option maxRecDepth 100000
open Go.RowKit
set_option linter.unusedVariables false

theorem irow_take2 {W : World} {g off : Nat} {l : List Int} (h : IRow W g off l) (k : Nat) : IRow W g off (l.take k) := by
  intro j x hx
  have hj := (List.getElem?_eq_some_iff.1 hx).1
  rw [List.length_take] at hj
  rw [List.getElem?_take_of_lt (by omega)] at hx
  exact h j x hx
theorem irow_drop2 {W : World} {g off : Nat} {l : List Int} (h : IRow W g off l) (k : Nat) : IRow W g (off + k) (l.drop k) := by
  intro j x hx
  rw [List.getElem?_drop] at hx
  have := h (k + j) x hx
  rwa [← Nat.add_assoc] at this
theorem Is.len {W : World} {q : Option Addr} {n cap : Nat} {l : List Int} (h : Is W (.slice q n cap) l) : l.length = n ∧ n ≤ cap ∧ cap ≤ 9223372036854775807 := by
  obtain ⟨q', cap', g, off, e, h1, h2, _⟩ := h
  cases e
  exact ⟨rfl, h1, h2⟩
theorem Is.nil (W : World) : Is W (.slice none 0 0) [] := ⟨none, 0, 0, 0, rfl, Nat.le_refl _, by omega, fun h => absurd h (by simp), fun h => absurd h (by simp), fun j x h => by simp at h⟩
theorem Is.form {W : World} {v : Value} {l : List Int} (h : Is W v l) : ∃ q cap, v = .slice q l.length cap := by
  obtain ⟨q, cap, g, off, e, _⟩ := h
  exact ⟨q, cap, e⟩
/-- A part of a slice of numbers. -/
theorem Is.sub {W : World} {q : Option Addr} {n cap : Nat} {l : List Int} (h : Is W (.slice q n cap) l) {i j sc : Nat} {v : Value} (hij : i ≤ j) (hjn : j ≤ n) (hsc : sc ≤ cap) (hjc : j ≤ sc) (hv : v = sliced q i j sc 1) : Is W v ((l.drop i).take (j - i)) := by
  obtain ⟨q', cap', g, off, e, h1, h2, h3, h4, h5⟩ := h
  cases e
  have hl : ((l.drop i).take (j - i)).length = j - i := by rw [List.length_take, List.length_drop]; omega
  subst hv
  unfold sliced
  by_cases c : sc = i
  · rw [if_pos c]
    refine ⟨q, sc - i, g, off, by rw [hl], by omega, by omega, fun h0 => ?_, fun h0 => ?_, fun j' x hx => ?_⟩
    · rw [hl] at h0; omega
    · rw [hl] at h0; omega
    · have := (List.getElem?_eq_some_iff.1 hx).1; rw [hl] at this; omega
  · rw [if_neg c]
    refine ⟨_, sc - i, g, off + i, by rw [hl], by omega, by omega, fun h0 => ?_, fun h0 => ?_, irow_take2 (irow_drop2 h5 i) _⟩
    · rw [hl] at h0
      rw [h3 (by omega), Option.map_some, Addr.add_mid, Nat.mul_one]
    · rw [hl] at h0
      exact h4 (by omega)
/-- One of its numbers. -/
theorem Is.at {W : World} {q : Option Addr} {n cap : Nat} {l : List Int} (h : Is W (.slice q n cap) l) (hn : 0 < n) : ∃ g off, q = some ⟨g, off, none⟩ ∧ g < W.heap.size ∧ IRow W g off l := by
  obtain ⟨q', cap', g, off, e, h1, h2, h3, h4, h5⟩ := h
  cases e
  exact ⟨g, off, h3 hn, h4 hn, h5⟩
theorem sizeN (w : World) : (sizeOf (Try.prog.elem 23)).run Try.prog w = .ok 1 w := by kernel_rfl
theorem eltN : Try.prog.underlying 23 = some (.slice (Try.prog.elem 23)) := by kernel_rfl
section
variable {ops : Array Oper} {rest : List Oper} {o : Oper} {a : Act} {w : World} {Q : Exit → Act → World → Prop}
theorem sli_l_run {ρ : Operand → Value} {x y : Operand} (ho : o.op = .slice 23 x (some y) none none) {q : Option Addr} {n cap i : Nat} {I : Int} {ki : IntKind}
    (hx : ρ x = .slice q n cap) (hy : ρ y = .int ki I) (hI : I = (i : Int)) (h1 : i ≤ n) (h2 : n ≤ cap) : (execOp ρ o).run Try.prog w = .ok (.value (sliced q i n cap 1)) w := by
  subst hI
  unfold execOp
  simp only [ho, hx, hy, Option.map_some, Option.map_none, Sem.run_bind, run_sliceAt_slice w 23 _ _ _ _ eltN, run_slice_l w 23 q n cap eltN _ (i : Int) (by omega) (by omega), sizeN, Result.andThen_ok, Sem.run_pure, Int.toNat_natCast]
theorem sli_h_run {ρ : Operand → Value} {x z : Operand} (ho : o.op = .slice 23 x none (some z) none) {q : Option Addr} {n cap j : Nat} {J : Int} {kj : IntKind}
    (hx : ρ x = .slice q n cap) (hz : ρ z = .int kj J) (hJ : J = (j : Int)) (h2 : j ≤ cap) : (execOp ρ o).run Try.prog w = .ok (.value (sliced q 0 j cap 1)) w := by
  subst hJ
  unfold execOp
  simp only [ho, hx, hz, Option.map_some, Option.map_none, Sem.run_bind, run_sliceAt_slice w 23 _ _ _ _ eltN, run_slice_h w 23 q n cap eltN _ (j : Int) (by omega) (by omega), sizeN, Result.andThen_ok, Sem.run_pure, Int.toNat_natCast]
/-- 'l[i:]' of numbers that an earlier world holds. -/
theorem sli_l (V : World) (hw : Region.wanted o (yielded ops a.tmps) = true) {x y : Operand} (ho : o.op = .slice 23 x (some y) none none) {q : Option Addr} {n cap : Nat} {I : Int} {ki : IntKind} {l : List Int} (i : Nat)
    (hx : a.eval x = .slice q n cap) (hy : a.eval y = .int ki I) (hI : I = (i : Int)) (h1 : i ≤ n) (hsl : Is V (.slice q n cap) l)
    (hK : ∀ q', Is V (.slice q' (n - i) (cap - i)) (l.drop i) → wpList Try.prog ops Q rest (a.put o.dst (.slice q' (n - i) (cap - i))) w) : wpList Try.prog ops Q (o :: rest) a w := by
  have hc := hsl.len
  obtain ⟨q', e⟩ := sliced_form q i n cap
  have hr := sli_l_run (w := w) ho hx hy hI h1 hc.2.1
  rw [e] at hr
  refine valS hw _ hr (hK q' ?_)
  have := hsl.sub h1 (Nat.le_refl _) (Nat.le_refl _) hc.2.1 e.symm
  rwa [List.take_of_length_le (by rw [List.length_drop]; omega)] at this
theorem sli_h (V : World) (hw : Region.wanted o (yielded ops a.tmps) = true) {x z : Operand} (ho : o.op = .slice 23 x none (some z) none) {q : Option Addr} {n cap : Nat} {J : Int} {kj : IntKind} {l : List Int} (j : Nat)
    (hx : a.eval x = .slice q n cap) (hz : a.eval z = .int kj J) (hJ : J = (j : Int)) (h1 : j ≤ n) (hsl : Is V (.slice q n cap) l)
    (hK : ∀ q', Is V (.slice q' j cap) (l.take j) → wpList Try.prog ops Q rest (a.put o.dst (.slice q' j cap)) w) : wpList Try.prog ops Q (o :: rest) a w := by
  have hc := hsl.len
  obtain ⟨q', e⟩ := sliced_form q 0 j cap
  have hr := sli_h_run (w := w) ho hx hz hJ (by omega)
  rw [e] at hr
  refine valS hw _ hr (hK q' ?_)
  have := hsl.sub (Nat.zero_le _) h1 (Nat.le_refl _) (by omega) e.symm
  simpa using this
end
section
variable {ops : Array Oper} {rest : List Oper} {o : Oper} {a : Act} {w : World} {Q : Exit → Act → World → Prop}
theorem appiW {K : Act → World → Prop} (A : World) (d : Option Tmp) (hd : o.dst = d) {s x : Operand} (ho : o.op = .call { callee := .builtin .append, args := #[s, x], argTypes := #[23, 23] })
    {v vx : Value} {n k : Nat} {l m : List Int} (hs : a.eval s = v) (hown : w.ownsRow A.heap.size 3 1 v n (ints l)) (hx : a.eval x = vx) (hsl : Is w vx m) (hm : m.length = k) (h63 : (n + k) * 8 ≤ 140737488355328) (hA : Below A.heap.size A w)
    (h : ∀ v' w', w'.ownsRow A.heap.size 3 1 v' (n + k) (ints (l ++ m)) → (v' = .slice none 0 0 ↔ v = .slice none 0 0 ∧ k = 0) → Below A.heap.size A w' → w.grownBy w' v.ownBlock → K (a.put d v') w') : o.wp Try.prog a w K Q := by
  subst hm
  obtain ⟨q, cap, rfl, hq, hsrc⟩ := hsl.src
  refine appW A d hd ho Try.underlying23 infoInt rfl (by omega) hs hown (ints m) hx hq (by rw [ints_len, Nat.mul_one]) hsrc (ints_one m) (by unfold maxLen; omega) h63 hA fun v' w' h1 h2 h3 h4 => ?_
  rw [ints_append] at h1
  exact h v' w' h1 h2 h3 h4
theorem mkW {K : Act → World → Prop} (A : World) (d : Option Tmp) (hd : o.dst = d) {x y : Operand} (ho : o.op = .makeSlice 23 x y)
    {c : Nat} {C : Int} (hx : a.eval x = .int .i64 0) (hy : a.eval y = .int .i64 C) (hC : C = (c : Int)) (hb : 8 * c ≤ 281474976710656) (hA : Below A.heap.size A w)
    (h : ∀ v w', w'.ownsRow A.heap.size 3 1 v 0 (ints []) → v ≠ .slice none 0 0 → Below A.heap.size A w' → K (a.put d v) w') : o.wp Try.prog a w K Q := by
  subst hC
  subst hd
  obtain ⟨i, hi, hz0, hz1, hz2⟩ := info_parts infoInt
  obtain ⟨w', hr, ho', hg⟩ := run_make_own (P := Try.prog) w A.heap.size 23 3 i _ 1 Try.underlying23 hi hz0 hz1 .i64 .i64 c (by rw [hz2]; exact hb) (by unfold maxLen; omega) hA.size
  unfold Oper.wp execOp
  simp only [ho, Sem.run_bind, hx, hy, hr, Result.andThen_ok]
  exact h _ _ ho' (by simp) (below_grown hA hg)
end
theorem io_chg {W W' : World} {base b : Nat} {v : Value} {l : List Int} (h : Io W base v l) (hc : Chg b W W') (hb : b < base) : Io W' base v l := by
  refine ⟨h.1, ?_⟩
  rcases h.2 with h2 | ⟨g, cap, cur, h1, h2, hg, h3⟩
  · exact .inl h2
  · exact .inr ⟨g, cap, cur, h1, h2, Blk.chg hg hc (by omega), h3⟩
/-- A copy of numbers, with a mark behind them. -/
def Cn (W : World) (base : Nat) (v : Value) (l : List Int) : Prop := ∃ g cap, v = .slice (some ⟨g, 0, none⟩) l.length cap ∧ Io W base (.slice (some ⟨g, 0, none⟩) (l ++ [-77]).length cap) (l ++ [-77])
theorem Cn.keep {W W' : World} {base : Nat} {v : Value} {l : List Int} (h : Cn W base v l) (hb : Below W.heap.size W W') : Cn W' base v l := by
  obtain ⟨g, cap, rfl, h1⟩ := h
  exact ⟨g, cap, rfl, h1.keep hb⟩
theorem Cn.chg {W W' : World} {base b : Nat} {v : Value} {l : List Int} (h : Cn W base v l) (hc : Chg b W W') (hb : b < base) : Cn W' base v l := by
  obtain ⟨g, cap, rfl, h1⟩ := h
  exact ⟨g, cap, rfl, io_chg h1 hc hb⟩
theorem Cn.less {W : World} {base base' : Nat} {v : Value} {l : List Int} (h : Cn W base v l) (hb : base' ≤ base) : Cn W base' v l := by
  obtain ⟨g, cap, rfl, h1⟩ := h
  exact ⟨g, cap, rfl, h1.less hb⟩
theorem Cn.open {W : World} {base : Nat} {v : Value} {l : List Int} (h : Cn W base v l) : Is W v l ∧ ∃ g cap, v = .slice (some ⟨g, 0, none⟩) l.length cap ∧ l.length + 1 ≤ cap ∧ W.cell? ⟨g, l.length, none⟩ = some (.int .i64 (-77)) := by
  obtain ⟨g, cap, rfl, h1⟩ := h
  obtain ⟨q, cap', g', off, e, x1, x2, x3, x4, x5⟩ := h1.is
  cases e
  have := x3 (by simp)
  cases this
  rw [List.length_append] at x1
  refine ⟨⟨_, cap, g, 0, rfl, Nat.le_trans (Nat.le_add_right _ _) x1, x2, fun _ => rfl, fun _ => x4 (by simp), fun j x hj => x5 j x ?_⟩, g, cap, rfl, x1, ?_⟩
  · rw [List.getElem?_append_left (List.getElem?_eq_some_iff.1 hj).1]; exact hj
  · have := x5 l.length (-77) (by simp)
    rwa [Nat.zero_add] at this
theorem Cn.is {W : World} {base : Nat} {v : Value} {l : List Int} (h : Cn W base v l) : Is W v l := h.open.1
theorem sep_old {W : World} {base e size n : Nat} {v u : Value} {xs : List Value} (h : W.ownsRow base e size v n xs) (hu : u.ownBlock = some W.heap.size) : Sep u v := by
  intro k hk hv
  have := World.ownsRow.lt h k hv
  rw [hu] at hk
  cases hk
  omega
theorem copied_cn {W : World} {base n g cap : Nat} {l : List Int} (h : W.ownsRow base 3 1 (.slice (some ⟨g, 0, none⟩) (0 + n + 1) cap) (0 + n + 1) (ints ([] ++ l ++ [-77]))) (hn : l.length = n) : Cn W base (.slice (some ⟨g, 0, none⟩) n cap) l := by
  subst hn
  refine ⟨g, cap, rfl, ?_⟩
  have e : (l ++ [-77]).length = 0 + l.length + 1 := by simp
  unfold Io
  rw [e]
  simpa using h
theorem sliced_0 (g n cap : Nat) : sliced (some ⟨g, 0, none⟩) 0 n cap 1 = .slice (some ⟨g, 0, none⟩) n cap := by
  unfold sliced
  simp [Addr.add]
end Go.Proofs.Ytfnageillhpjpaa
namespace Go.Proofs.Ytfnageillhpjpaa
set_option maxRecDepth 100000
open Go.RowKit
set_option linter.unusedVariables false

/-- The numbers that bytes consist of. -/
def nus (b : List Nat) : Option (List Int) := if b = [] then some [] else if h : nOK b = true then (nus (b.drop (nS b))).map (nV b :: ·) else none
termination_by b.length
decreasing_by
  have := nS_le h
  rw [List.length_drop]
  omega
theorem nus_nil : nus [] = some [] := by rw [nus, if_pos rfl]
theorem nOK_ne {b : List Nat} (h : nOK b = true) : b ≠ [] := by
  intro e
  subst e
  simp [nOK] at h
theorem nus_go {b : List Nat} (h : nOK b = true) : nus b = (nus (b.drop (nS b))).map (nV b :: ·) := by rw [nus, if_neg (nOK_ne h), dif_pos h]
theorem nus_no {b : List Nat} (h0 : b ≠ []) (h : nOK b = false) : nus b = none := by rw [nus, if_neg h0, dif_neg (by simp [h])]
theorem nus_put (ns : List Int) (h : In64 ns) : nus (numsB ns) = some ns := by
  induction ns with
  | nil => exact nus_nil
  | cons n r ih =>
    have h1 := h n (List.mem_cons_self ..)
    obtain ⟨a, b, c⟩ := num_put n (numsB r) h1.1 h1.2
    have e : numsB (n :: r) = numB n ++ numsB r := by simp [numsB]
    rw [e, nus_go a, b, c, List.drop_append_of_le_length (Nat.le_refl _), List.drop_length, List.nil_append, ih (fun x hx => h x (List.mem_cons_of_mem _ hx))]
    rfl
/-- At most so many. -/
def numsR (b : List Nat) (most : Int) : Option (List Int) := (nus b).bind fun r => if 0 < r.length ∧ most < (r.length : Int) then none else some r
theorem numsR_some {b : List Nat} {most : Int} {done : List Int} (h : nus b = some done) (hm : done = [] ∨ (done.length : Int) ≤ most) : numsR b most = some done := by
  rw [numsR, h, Option.bind_some, if_neg]
  rintro ⟨h1, h2⟩
  rcases hm with rfl | hm
  · simp at h1
  · omega
theorem numsR_none {b : List Nat} {most : Int} (h : nus b = none) : numsR b most = none := by rw [numsR, h, Option.bind_none]
theorem numsR_full {b rest : List Nat} {most : Int} {done : List Int} (h : nus b = (nus rest).map (done ++ ·)) (hok : nOK rest = true) (hm : most ≤ (done.length : Int)) : numsR b most = none := by
  rw [numsR, h, nus_go hok]
  cases nus (rest.drop (nS rest)) with
  | none => rfl
  | some r =>
    simp only [Option.map_some, Option.bind_some]
    rw [if_pos]
    simp
    omega
theorem nus_step {b rest : List Nat} {done : List Int} (h : nus b = (nus rest).map (done ++ ·)) (hok : nOK rest = true) : nus b = (nus (rest.drop (nS rest))).map ((done ++ [nV rest]) ++ ·) := by
  rw [h, nus_go hok]
  cases nus (rest.drop (nS rest)) with
  | none => rfl
  | some r => simp
/-- What Nums answers. -/
structure NP (W : World) (base : Nat) (r : Option (List Int)) (e : Ending) : Prop where
  some : ∀ x, r = some x → ∃ v', e = .returned (.tuple #[v', .nilIface]) ∧ Io W base v' x
  none : r = none → e = .returned (.tuple #[.slice none 0 0, Err 3])
/-- How long a slice is. -/
def slLen : Value → Nat
  | .slice _ n _ => n
  | _ => 0
theorem Sl.slLen {W : World} {v : Value} {l : List Nat} (h : Sl W v l) : slLen v = l.length := by
  obtain ⟨q, cap, rfl, _⟩ := h
  rfl
theorem Io.form {W : World} {base : Nat} {v : Value} {l : List Int} (h : Io W base v l) : ∃ q cap, v = .slice q l.length cap := by
  obtain ⟨q, cap, g, off, e, _⟩ := h.is
  exact ⟨q, cap, e⟩

section
variable {ops : Array Oper} {rest : List Oper} {o : Oper} {a : Act} {w : World} {Q : Exit → Act → World → Prop}
end
end Go.Proofs.Ytfnageillhpjpaa
namespace Go.Proofs.Ytfnageillhpjpaa
set_option maxRecDepth 100000
open Go.RowKit
set_option linter.unusedVariables false

end Go.Proofs.Ytfnageillhpjpaa
