/-
  How many binary digits amounts have: floor.Bits and the document's Bits.
  frame.Put, frame.Take, frame.Wrap.
  Slices that are each its own; frame.Split, frame.Unwrap, frame.Nums.
  append of numbers onto an own slice of numbers, and where it lies then.
-/
import Derived.Test.YtpcejajidhfmpaaPk03
import Derived.Lib.BitFns
import Derived.Test.YtpcejajidhfmpaaPk04
namespace Go.Proofs.Ytpcejajidhfmpaa.floorBits
open Go.RowKit
set_option linter.unusedVariables false

theorem tab_size : Lib.len8tab.size = 256 := by decide +kernel
theorem tab_all : ∀ n : Fin 256, (Lib.len8tab[n.val]'(by rw [tab_size]; exact n.2)).toNat = Lib.bitLen n.val := by decide +kernel
theorem tab_at (n : Nat) (h : n < Lib.len8tab.size) : (Lib.len8tab[n]'h).toNat = Lib.bitLen n := tab_all ⟨n, by rw [tab_size] at h; exact h⟩
theorem fin_num (x y b : Int) (s : Nat) (hx0 : 0 ≤ x) (hx : x ≤ 18446744073709551615) (hy0 : 0 ≤ y) (hy : y ≤ 255) (hs : s ≤ 56) (e : y.toNat = x.toNat / 2 ^ s) (hl : 2 ^ s ≤ x.toNat) (hb : b = (Lib.bitLen y.toNat : Int)) :
    wrap64 (s + wrap64 b) = (Lib.bitLen x.toNat : Int) := by
  have hx' : x.toNat < 2 ^ 64 := by clear hb hl e; omega
  have l := Lib.bitLen_le8' y hy0 hy
  have sh := Lib.bitLen_shift s x.toNat hl hx'
  rw [hb, sh]; rw [e] at l ⊢
  generalize Lib.bitLen (x.toNat / 2 ^ s) = B at l ⊢
  clear hb sh e hl hx'
  unfold wrap64; omega
theorem fin_num0 (x b : Int) (hx0 : 0 ≤ x) (hx : x ≤ 255) (hb : b = (Lib.bitLen x.toNat : Int)) : wrap64 (wrap64 b) = (Lib.bitLen x.toNat : Int) := by
  have l := Lib.bitLen_le8' x hx0 hx
  rw [hb]; clear hb
  generalize Lib.bitLen x.toNat = B at l ⊢
  unfold wrap64; omega
theorem tab_int (n : Nat) (h : n < Lib.len8tab.size) : ((Lib.len8tab[n]'h).toNat : Int) = (Lib.bitLen n : Int) := congrArg Int.ofNat (tab_at n h)

theorem amount_eq (n : Int) (h0 : -9223372036854775808 ≤ n) (h1 : n ≤ 9223372036854775807) : IntKind.u64.wrap (wrap64 (bits .xor .i64 n (sgn n) - sgn n)) = (n.natAbs : Int) := by
  unfold sgn
  by_cases c : n < 0
  · rw [if_pos c, xor_m1 n h0 h1, IntKind.wrap_u64]; unfold wrap64; omega
  · rw [if_neg c, xor_0 n h0 h1, IntKind.wrap_u64]; unfold wrap64; omega

theorem pow_le {j m : Nat} (h : 2 ^ j ≤ m) (hm : m ≤ 9223372036854775807) : j ≤ 62 := by
  rcases Nat.lt_or_ge j 63 with c | c
  · omega
  · have := Nat.pow_le_pow_right (show 0 < 2 by omega) c
    omega
theorem bitLen_of (x k : Nat) (h : 2 ^ k ≤ x) (h' : x < 2 ^ (k + 1)) (hx : x < 2 ^ 64) : Lib.bitLen x = k + 1 := by
  have hp : 0 < 2 ^ k := Nat.two_pow_pos k
  rw [Lib.bitLen_shift k x h hx, show x / 2 ^ k = 1 from Nat.div_eq_of_lt_le (by omega) (by rw [Nat.pow_succ] at h'; omega)]; rfl

theorem bl_bd (n : Int) (h0 : -9223372036854775808 ≤ n) (h1 : n ≤ 9223372036854775807) : Lib.bitLen n.natAbs ≤ 64 := Lib.bitLenAux_le 64 _ 64 (by omega)

end Go.Proofs.Ytpcejajidhfmpaa.floorBits
namespace Go.Proofs.Ytpcejajidhfmpaa
open Go.RowKit
set_option linter.unusedVariables false

/-- A slice of bytes of the call's own. -/
def Ow (W : World) (base : Nat) (v : Value) (l : List Nat) : Prop := W.ownsRow base 5 1 v l.length (bys l)
theorem ow_of {W : World} {base n : Nat} {v : Value} {l : List Nat} (h : W.ownsRow base 5 1 v n (bys l)) : Ow W base v l := by
  have := (own_sl h).1
  unfold Ow
  rw [this]
  exact h
theorem Ow.sl {W : World} {base : Nat} {v : Value} {l : List Nat} (h : Ow W base v l) : Sl W v l := (own_sl h).2
theorem Ow.keep {W W' : World} {base : Nat} {v : Value} {l : List Nat} (h : Ow W base v l) (hb : Below W.heap.size W W') : Ow W' base v l := own_keep h hb
theorem Ow.less {W : World} {base base' : Nat} {v : Value} {l : List Nat} (h : Ow W base v l) (hb : base' ≤ base) : Ow W base' v l := own_less h hb
/-- A slice of numbers, in memory that W has. -/
def Is (W : World) (v : Value) (l : List Int) : Prop := ∃ q cap g off, v = .slice q l.length cap ∧ l.length ≤ cap ∧ cap ≤ 9223372036854775807 ∧ (0 < l.length → q = some ⟨g, off, none⟩) ∧ (0 < l.length → g < W.heap.size) ∧ IRow W g off l
theorem Is.keep {W W' : World} {v : Value} {l : List Int} (h : Is W v l) (hb : Below W.heap.size W W') : Is W' v l := by
  obtain ⟨q, cap, g, off, rfl, h1, h2, h3, h4, h5⟩ := h
  exact ⟨q, cap, g, off, rfl, h1, h2, h3, fun h0 => Nat.lt_of_lt_of_le (h4 h0) hb.size, irow_keep h5 h4 hb⟩
theorem own_is {W : World} {base n : Nat} {v : Value} {l : List Int} (h : W.ownsRow base 3 1 v n (ints l)) : Is W v l := by
  obtain ⟨h1, q, g, cap, rfl, hp, hg, _, _, hc, hm, hr, _⟩ := own_open h (by omega)
  rw [ints_len, Nat.mul_one] at h1
  subst h1
  exact ⟨q, cap, g, 0, rfl, hc, hm, hp, hg, fun j x hx => by rw [Nat.zero_add]; exact hr j _ (by rw [ints_at, hx]; rfl)⟩
/-- All fit. -/
def In64 (l : List Int) : Prop := ∀ x ∈ l, -9223372036854775808 ≤ x ∧ x ≤ 9223372036854775807
theorem numsB_take (l : List Int) (k : Nat) (x : Int) (hx : l[k]? = some x) : numsB (l.take (k + 1)) = numsB (l.take k) ++ numB x := by
  rw [List.take_add_one, hx, Option.toList_some, numsB_snoc]

/-- An error of the program. -/
abbrev Err (n : Int) : Value := .iface 66 (.int .i64 n)
theorem nS_le {l : List Nat} (h : nOK l = true) : nS l ≤ l.length ∧ nS l ≤ 9 ∧ 1 ≤ nS l := by
  have := (nOK_iff l).1 h
  unfold nS
  omega
/-- The lengths of lists, one behind the other. -/
theorem flat_len (ls : List (List Nat)) (k : Nat) (l : List Nat) (h : ls[k]? = some l) : (ls.take (k + 1)).flatten.length = (ls.take k).flatten.length + l.length := by
  rw [flat_take ls k l h, List.length_append]
theorem flat_mono (ls : List (List Nat)) (k : Nat) : (ls.take k).flatten.length ≤ ls.flatten.length := by
  have : ls.flatten = (ls.take k).flatten ++ (ls.drop k).flatten := by rw [← List.flatten_append, List.take_append_drop]
  rw [this, List.length_append]
  omega
theorem flat_byt {ls : List (List Nat)} (h : ∀ l ∈ ls, Byt l) : Byt ls.flatten := by
  intro x hx
  obtain ⟨l, hl, h1⟩ := List.mem_flatten.1 hx
  exact h l hl x h1
theorem ow_empty {W : World} {base : Nat} {v : Value} (h : W.ownsRow base 5 1 v 0 []) : Ow W base v [] := h
end Go.Proofs.Ytpcejajidhfmpaa
namespace Go.Proofs.Ytpcejajidhfmpaa
open Go.RowKit
set_option linter.unusedVariables false

theorem Ow.lt {W : World} {base : Nat} {v : Value} {l : List Nat} (h : Ow W base v l) : ∀ k, v.ownBlock = some k → base ≤ k ∧ k < W.heap.size := World.ownsRow.lt h
theorem Ow.kept {W W' : World} {base : Nat} {v x : Value} {l : List Nat} (h : Ow W base v l) (hg : W.grownBy W' x.ownBlock) (hs : Sep v x) : Ow W' base v l := World.ownsRow.kept h hg hs.row
/-- Slices of bytes of the call's own, no two of one block. -/
structure Bag (W : World) (base : Nat) (vs : List Value) (ls : List (List Nat)) : Prop where
  len : vs.length = ls.length
  own : ∀ (j : Nat) (v : Value) (l : List Nat), vs[j]? = some v → ls[j]? = some l → Ow W base v l
  sep : ∀ (i j : Nat) (v u : Value), i ≠ j → vs[i]? = some v → vs[j]? = some u → Sep v u
theorem Bag.lt {W : World} {base : Nat} {vs : List Value} {ls : List (List Nat)} (h : Bag W base vs ls) {j : Nat} {v : Value} (hv : vs[j]? = some v) : ∀ k, v.ownBlock = some k → base ≤ k ∧ k < W.heap.size := by
  have hj : j < ls.length := by rw [← h.len]; exact (List.getElem?_eq_some_iff.1 hv).1
  exact (h.own j v _ hv (List.getElem?_eq_getElem hj)).lt
theorem Bag.keep {W W' : World} {base : Nat} {vs : List Value} {ls : List (List Nat)} (h : Bag W base vs ls) (hb : Below W.heap.size W W') : Bag W' base vs ls :=
  ⟨h.len, fun j v l hv hl => (h.own j v l hv hl).keep hb, h.sep⟩
theorem Bag.kept {W W' : World} {base : Nat} {vs : List Value} {ls : List (List Nat)} {x : Value} (h : Bag W base vs ls) (hg : W.grownBy W' x.ownBlock) (hs : ∀ (j : Nat) (v : Value), vs[j]? = some v → Sep v x) : Bag W' base vs ls :=
  ⟨h.len, fun j v l hv hl => (h.own j v l hv hl).kept hg (hs j v hv), h.sep⟩
theorem Bag.nil (W : World) (base : Nat) : Bag W base [] [] := ⟨rfl, fun j v l hv => by simp at hv, fun i j v u _ hv => by simp at hv⟩
theorem snoc_at {α : Type} {l : List α} {x y : α} {j : Nat} (h : (l ++ [x])[j]? = some y) : (j < l.length ∧ l[j]? = some y) ∨ (j = l.length ∧ y = x) := by
  by_cases c : j < l.length
  · rw [List.getElem?_append_left c] at h; exact .inl ⟨c, h⟩
  · rw [List.getElem?_append_right (by omega)] at h
    right
    have : j - l.length < [x].length := (List.getElem?_eq_some_iff.1 h).1
    simp at this
    have e : j - l.length = 0 := by omega
    rw [e] at h
    simp at h
    exact ⟨by omega, h.symm⟩
theorem Bag.snoc {W : World} {base : Nat} {vs : List Value} {ls : List (List Nat)} {u : Value} {f : List Nat} (h : Bag W base vs ls) (hu : Ow W base u f) (hs : ∀ (j : Nat) (v : Value), vs[j]? = some v → Sep v u) : Bag W base (vs ++ [u]) (ls ++ [f]) := by
  refine ⟨by simp [h.len], fun j v l hv hl => ?_, fun i j v x hij hv hx => ?_⟩
  · rcases snoc_at hv with ⟨h1, h2⟩ | ⟨h1, h2⟩ <;> rcases snoc_at hl with ⟨h3, h4⟩ | ⟨h3, h4⟩
    · exact h.own j v l h2 h4
    · have := h.len; omega
    · have := h.len; omega
    · subst h2; subst h4; exact hu
  · rcases snoc_at hv with ⟨h1, h2⟩ | ⟨h1, h2⟩ <;> rcases snoc_at hx with ⟨h3, h4⟩ | ⟨h3, h4⟩
    · exact h.sep i j v x hij h2 h4
    · subst h4; exact hs i v h2
    · subst h2; exact (hs j x h4).symm
    · omega
section
variable {ops : Array Oper} {rest : List Oper} {o : Oper} {a : Act} {w : World} {Q : Exit → Act → World → Prop}
end
theorem Ow.form {W : World} {base : Nat} {v : Value} {l : List Nat} (h : Ow W base v l) : ∃ q cap, v = .slice q l.length cap := by
  obtain ⟨q, cap, e, _⟩ := h.sl
  exact ⟨q, cap, e⟩

/-- The number of a slot. -/
def numOf : Value → Nat
  | .int _ n => n.toNat
  | _ => 0
theorem spt_at (l : List Nat) (fs : List (List Nat)) (h : spt l = fs ++ spt (l.drop (spN fs))) (hok : insOK (l.drop (spN fs)) = true) :
    spt l = (fs ++ [insB (l.drop (spN fs))]) ++ spt (l.drop (spN (fs ++ [insB (l.drop (spN fs))]))) := by
  rw [h, spt_go hok, spN_snoc, List.drop_drop, List.append_assoc]; rfl
end Go.Proofs.Ytpcejajidhfmpaa
namespace Go.Proofs.Ytpcejajidhfmpaa
open Go.RowKit
set_option linter.unusedVariables false

/-- What append asks of its source. -/
theorem Is.src {W : World} {v : Value} {l : List Int} (h : Is W v l) : ∃ q cap, v = .slice q l.length cap ∧ (q = none → l.length = 0) ∧ (∀ ad, q = some ad → ∀ j u, (ints l)[j]? = some u → W.cell? (ad.add j) = some u) := by
  obtain ⟨q, cap, g, off, rfl, h1, h2, h3, h4, h5⟩ := h
  refine ⟨q, cap, rfl, fun hq => ?_, fun ad had j u hu => ?_⟩
  · by_cases h0 : 0 < l.length
    · have e := h3 h0
      rw [hq] at e; cases e
    · omega
  · rw [ints_at] at hu
    cases hx : l[j]? with
    | none => rw [hx] at hu; simp at hu
    | some x =>
      rw [hx] at hu
      have e := h3 (by have := (List.getElem?_eq_some_iff.1 hx).1; omega)
      rw [had] at e
      cases e
      rw [Addr.add_mid, h5 j x hx]
      simpa using hu
/-- A slice of numbers of the call's own. -/
def Io (W : World) (base : Nat) (v : Value) (l : List Int) : Prop := W.ownsRow base 3 1 v l.length (ints l)
theorem io_of {W : World} {base n : Nat} {v : Value} {l : List Int} (h : W.ownsRow base 3 1 v n (ints l)) : Io W base v l := by
  have := h.1
  rw [ints_len, Nat.mul_one] at this
  unfold Io
  rw [this]
  exact h
theorem Io.is {W : World} {base : Nat} {v : Value} {l : List Int} (h : Io W base v l) : Is W v l := own_is h
theorem Io.keep {W W' : World} {base : Nat} {v : Value} {l : List Int} (h : Io W base v l) (hb : Below W.heap.size W W') : Io W' base v l := own_keep h hb
theorem Io.less {W : World} {base base' : Nat} {v : Value} {l : List Int} (h : Io W base v l) (hb : base' ≤ base) : Io W base' v l := own_less h hb
theorem Io.lt {W : World} {base : Nat} {v : Value} {l : List Int} (h : Io W base v l) : ∀ k, v.ownBlock = some k → base ≤ k ∧ k < W.heap.size := World.ownsRow.lt h
theorem Io.kept {W W' : World} {base : Nat} {v x : Value} {l : List Int} (h : Io W base v l) (hg : W.grownBy W' x.ownBlock) (hs : Sep v x) : Io W' base v l := World.ownsRow.kept h hg hs.row
/-- Blocks stay apart where one of them grows. -/
theorem sep_at {a b b' : Value} {m : Nat} (h : Sep a b) (hl : ∀ k, a.ownBlock = some k → k < m) (hat : b'.ownBlock = b.ownBlock ∨ b'.ownBlock = some m) : Sep a b' := by
  intro k hk
  rcases hat with e | e
  · rw [e]; exact h k hk
  · rw [e]; intro he; have := hl k hk; simp at he; omega
section
variable {ops : Array Oper} {rest : List Oper} {o : Oper} {a : Act} {w : World} {Q : Exit → Act → World → Prop}
theorem appi_run (A : World) (ty : TypeId) {v vx : Value} {n k : Nat} {l m : List Int} (hown : w.ownsRow A.heap.size 3 1 v n (ints l)) (hsl : Is w vx m) (hm : m.length = k) (h63 : n + k ≤ 1000000) (hA : Below A.heap.size A w) :
    ∃ v' w', (Builtin.append_ #[24, 24] ty #[v, vx]).run Try.prog w = .ok v' w' ∧ w'.ownsRow A.heap.size 3 1 v' (n + k) (ints (l ++ m)) ∧ (v' = .slice none 0 0 ↔ v = .slice none 0 0 ∧ k = 0) ∧ Below A.heap.size A w' ∧ w.grownBy w' v.ownBlock ∧ (v'.ownBlock = v.ownBlock ∨ v'.ownBlock = some w.heap.size) := by
  obtain ⟨i, hi, hz0, hz1, hz2⟩ := info_parts infoInt
  subst hm
  obtain ⟨q, cap, rfl, hq, hsrc⟩ := hsl.src
  cases q with
  | none =>
    have h0 := hq rfl
    have hm0 : m = [] := List.eq_nil_of_length_eq_zero h0
    subst hm0
    exact ⟨v, w, append_none (P := Try.prog) w A.heap.size 24 ty 3 i 1 cap Try.underlying24 hi v n (ints l) hown, by simpa using hown, by simp, hA, ⟨rfl, rfl, rfl, Nat.le_refl _, fun _ _ _ => rfl⟩, .inl rfl⟩
  | some ad =>
    obtain ⟨v', w', hr, h2, h3, h4, h5⟩ := run_append_own_at (P := Try.prog) w A.heap.size 24 ty 3 i _ 1 8 Try.underlying24 hi hz0 hz1 hz2 rfl (by omega) v n (ints l) hown ad m.length cap (ints m) (by rw [ints_len, Nat.mul_one]) (hsrc ad rfl) (ints_one m) (by unfold maxLen; omega) (by omega) hA.size
    refine ⟨v', w', hr, by rw [← ints_append]; exact h2, h4, ?_, h3, h5⟩
    refine hA.grown h3 hA.size (fun r hr => ?_)
    rcases hown.2 with ⟨rfl, _⟩ | ⟨g', cap', cur', rfl, hbg, _⟩
    · cases hr
    · cases hr; exact hbg
theorem app_i (A : World) (hw : Region.wanted o (yielded ops a.tmps) = true) {s x : Operand} (ho : o.op = .call { callee := .builtin .append, args := #[s, x], argTypes := #[24, 24] })
    {v vx : Value} {n k : Nat} {l m : List Int} (hs : a.eval s = v) (hown : w.ownsRow A.heap.size 3 1 v n (ints l)) (hx : a.eval x = vx) (hsl : Is w vx m) (hm : m.length = k) (h63 : n + k ≤ 1000000) (hA : Below A.heap.size A w)
    (h : ∀ v' w', w'.ownsRow A.heap.size 3 1 v' (n + k) (ints (l ++ m)) → (v' = .slice none 0 0 ↔ v = .slice none 0 0 ∧ k = 0) → Below A.heap.size A w' → w.grownBy w' v.ownBlock → (v'.ownBlock = v.ownBlock ∨ v'.ownBlock = some w.heap.size) → wpList Try.prog ops Q rest (a.put o.dst v') w') : wpList Try.prog ops Q (o :: rest) a w := by
  unfold wpList
  rw [if_pos hw]
  left
  obtain ⟨v', w', hr, h1, h2, h3, h4, h5⟩ := appi_run A o.type hown hsl hm h63 hA
  unfold Oper.wp execOp
  simp only [ho, resolve, invoke, builtin, Sem.run_bind, Sem.run_pure, Result.andThen_ok, List.map_toArray, List.map_cons, List.map_nil, hs, hx, hr]
  exact h v' w' h1 h2 h3 h4 h5
/-- An operation that yields, at one operation. -/
theorem valWf {K : Act → World → Prop} (d : Option Tmp) (hd : o.dst = d) (v : Value) (hr : (execOp a.eval o).run Try.prog w = .ok (.value v) w) (h : K (a.put d v) w) : o.wp Try.prog a w K Q := by
  subst hd
  unfold Oper.wp
  rw [hr, Oper.upon_value]
  exact h
/-- A slice of numbers, just made: at one operation. -/
theorem bs_iW {K : Act → World → Prop} (d : Option Tmp) (hd : o.dst = d) {n : Nat} {parts : Array (Nat × Operand)} (ho : o.op = .buildSlice 24 n parts) (xs : List Int) {vs : Array (Nat × Value)} (hl : parts.map (fun (i, x) => (i, a.eval x)) = vs)
    (hrun : (Instr.buildSlice 24 n vs).run Try.prog w = .ok (.slice (some ⟨w.heap.size, 0, none⟩) n n) (w.alloc (.cells (ints xs).toArray 3))) (hn : xs.length = n) (hm : n ≤ maxLen)
    (h : ∀ W', W'.ownsRow w.heap.size 3 1 (.slice (some ⟨w.heap.size, 0, none⟩) n n) n (ints xs) → Below w.heap.size w W' → K (a.put d (.slice (some ⟨w.heap.size, 0, none⟩) n n)) W') : o.wp Try.prog a w K Q := by
  subst hd
  unfold Oper.wp execOp
  simp only [ho, Sem.run_bind, hl, hrun, Result.andThen_ok]
  exact h _ (own_new w xs n hn hm _ (Nat.le_refl _)) ((Below.refl _ _).alloc (Nat.le_refl _) _)
end
end Go.Proofs.Ytpcejajidhfmpaa
