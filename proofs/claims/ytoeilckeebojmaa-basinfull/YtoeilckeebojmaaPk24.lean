/-
  Slices that are each its own; frame.Split, frame.Unwrap, frame.Nums.
  append of numbers onto an own slice of numbers, and where it lies then.
  Nothing but these blocks has turned; what stays then.
-/
import Derived.Test.YtoeilckeebojmaaPk23
import Derived.Test.YtoeilckeebojmaaPk04
import Derived.Test.YtoeilckeebojmaaPk05
namespace Go.Proofs.Ytoeilckeebojmaa
set_option maxRecDepth 100000
open Go.RowKit
set_option linter.unusedVariables false

theorem Ow.lt {W : World} {base : Nat} {v : Value} {l : List Nat} (h : Ow W base v l) : ∀ k, v.ownBlock = some k → base ≤ k ∧ k < W.heap.size := World.ownsRow.lt h
theorem Ow.kept {W W' : World} {base : Nat} {v x : Value} {l : List Nat} (h : Ow W base v l) (hg : W.grownBy W' x.ownBlock) (hs : Sep v x) : Ow W' base v l := World.ownsRow.kept h hg hs.row
/-- Slices of bytes of the call's own, no two of one block. -/
structure Bag (W : World) (base : Nat) (vs : List Value) (ls : List (List Nat)) : Prop where
  len : vs.length = ls.length
  own : ∀ (j : Nat) (v : Value) (l : List Nat), vs[j]? = some v → ls[j]? = some l → Ow W base v l
  sep : ∀ (i j : Nat) (v u : Value), i ≠ j → vs[i]? = some v → vs[j]? = some u → Sep v u
theorem Bag.lt {W : World} {base : Nat} {vs : List Value} {ls : List (List Nat)} (h : Bag W base vs ls) {j : Nat} {v : Value} (hv : vs[j]? = some v) : ∀ k, v.ownBlock = some k → base ≤ k ∧ k < W.heap.size := by
  have hj : j < ls.length := by rw [← h.len]; exact (List.getElem?_eq_some_iff.1 hv).1
  exact (h.own j v _ hv (List.getElem?_eq_getElem hj)).lt
theorem Bag.keep {W W' : World} {base : Nat} {vs : List Value} {ls : List (List Nat)} (h : Bag W base vs ls) (hb : Below W.heap.size W W') : Bag W' base vs ls :=
  ⟨h.len, fun j v l hv hl => (h.own j v l hv hl).keep hb, h.sep⟩
theorem Bag.kept {W W' : World} {base : Nat} {vs : List Value} {ls : List (List Nat)} {x : Value} (h : Bag W base vs ls) (hg : W.grownBy W' x.ownBlock) (hs : ∀ (j : Nat) (v : Value), vs[j]? = some v → Sep v x) : Bag W' base vs ls :=
  ⟨h.len, fun j v l hv hl => (h.own j v l hv hl).kept hg (hs j v hv), h.sep⟩
theorem Bag.nil (W : World) (base : Nat) : Bag W base [] [] := ⟨rfl, fun j v l hv => by simp at hv, fun i j v u _ hv => by simp at hv⟩
theorem snoc_at {α : Type} {l : List α} {x y : α} {j : Nat} (h : (l ++ [x])[j]? = some y) : (j < l.length ∧ l[j]? = some y) ∨ (j = l.length ∧ y = x) := by
  by_cases c : j < l.length
  · rw [List.getElem?_append_left c] at h; exact .inl ⟨c, h⟩
  · rw [List.getElem?_append_right (by omega)] at h
    right
    have : j - l.length < [x].length := (List.getElem?_eq_some_iff.1 h).1
    simp at this
    have e : j - l.length = 0 := by omega
    rw [e] at h
    simp at h
    exact ⟨by omega, h.symm⟩
theorem Bag.snoc {W : World} {base : Nat} {vs : List Value} {ls : List (List Nat)} {u : Value} {f : List Nat} (h : Bag W base vs ls) (hu : Ow W base u f) (hs : ∀ (j : Nat) (v : Value), vs[j]? = some v → Sep v u) : Bag W base (vs ++ [u]) (ls ++ [f]) := by
  refine ⟨by simp [h.len], fun j v l hv hl => ?_, fun i j v x hij hv hx => ?_⟩
  · rcases snoc_at hv with ⟨h1, h2⟩ | ⟨h1, h2⟩ <;> rcases snoc_at hl with ⟨h3, h4⟩ | ⟨h3, h4⟩
    · exact h.own j v l h2 h4
    · have := h.len; omega
    · have := h.len; omega
    · subst h2; subst h4; exact hu
  · rcases snoc_at hv with ⟨h1, h2⟩ | ⟨h1, h2⟩ <;> rcases snoc_at hx with ⟨h3, h4⟩ | ⟨h3, h4⟩
    · exact h.sep i j v x hij h2 h4
    · subst h4; exact hs i v h2
    · subst h2; exact (hs j x h4).symm
    · omega
section
variable {ops : Array Oper} {rest : List Oper} {o : Oper} {a : Act} {w : World} {Q : Exit → Act → World → Prop}
end
theorem Ow.form {W : World} {base : Nat} {v : Value} {l : List Nat} (h : Ow W base v l) : ∃ q cap, v = .slice q l.length cap := by
  obtain ⟨q, cap, e, _⟩ := h.sl
  exact ⟨q, cap, e⟩

/-- The number of a slot. -/
def numOf : Value → Nat
  | .int _ n => n.toNat
  | _ => 0
theorem spt_at (l : List Nat) (fs : List (List Nat)) (h : spt l = fs ++ spt (l.drop (spN fs))) (hok : insOK (l.drop (spN fs)) = true) :
    spt l = (fs ++ [insB (l.drop (spN fs))]) ++ spt (l.drop (spN (fs ++ [insB (l.drop (spN fs))]))) := by
  rw [h, spt_go hok, spN_snoc, List.drop_drop, List.append_assoc]; rfl
end Go.Proofs.Ytoeilckeebojmaa
namespace Go.Proofs.Ytoeilckeebojmaa
set_option maxRecDepth 100000
open Go.RowKit
set_option linter.unusedVariables false

/-- What append asks of its source. -/
theorem Is.src {W : World} {v : Value} {l : List Int} (h : Is W v l) : ∃ q cap, v = .slice q l.length cap ∧ (q = none → l.length = 0) ∧ (∀ ad, q = some ad → ∀ j u, (ints l)[j]? = some u → W.cell? (ad.add j) = some u) := by
  obtain ⟨q, cap, g, off, rfl, h1, h2, h3, h4, h5⟩ := h
  refine ⟨q, cap, rfl, fun hq => ?_, fun ad had j u hu => ?_⟩
  · by_cases h0 : 0 < l.length
    · have e := h3 h0
      rw [hq] at e; cases e
    · omega
  · rw [ints_at] at hu
    cases hx : l[j]? with
    | none => rw [hx] at hu; simp at hu
    | some x =>
      rw [hx] at hu
      have e := h3 (by have := (List.getElem?_eq_some_iff.1 hx).1; omega)
      rw [had] at e
      cases e
      rw [Addr.add_mid, h5 j x hx]
      simpa using hu
/-- A slice of numbers of the call's own. -/
def Io (W : World) (base : Nat) (v : Value) (l : List Int) : Prop := W.ownsRow base 3 1 v l.length (ints l)
theorem io_of {W : World} {base n : Nat} {v : Value} {l : List Int} (h : W.ownsRow base 3 1 v n (ints l)) : Io W base v l := by
  have := h.1
  rw [ints_len, Nat.mul_one] at this
  unfold Io
  rw [this]
  exact h
theorem Io.is {W : World} {base : Nat} {v : Value} {l : List Int} (h : Io W base v l) : Is W v l := own_is h
theorem Io.keep {W W' : World} {base : Nat} {v : Value} {l : List Int} (h : Io W base v l) (hb : Below W.heap.size W W') : Io W' base v l := own_keep h hb
theorem Io.less {W : World} {base base' : Nat} {v : Value} {l : List Int} (h : Io W base v l) (hb : base' ≤ base) : Io W base' v l := own_less h hb
theorem Io.lt {W : World} {base : Nat} {v : Value} {l : List Int} (h : Io W base v l) : ∀ k, v.ownBlock = some k → base ≤ k ∧ k < W.heap.size := World.ownsRow.lt h
theorem Io.kept {W W' : World} {base : Nat} {v x : Value} {l : List Int} (h : Io W base v l) (hg : W.grownBy W' x.ownBlock) (hs : Sep v x) : Io W' base v l := World.ownsRow.kept h hg hs.row
/-- Blocks stay apart where one of them grows. -/
theorem sep_at {a b b' : Value} {m : Nat} (h : Sep a b) (hl : ∀ k, a.ownBlock = some k → k < m) (hat : b'.ownBlock = b.ownBlock ∨ b'.ownBlock = some m) : Sep a b' := by
  intro k hk
  rcases hat with e | e
  · rw [e]; exact h k hk
  · rw [e]; intro he; have := hl k hk; simp at he; omega
section
variable {ops : Array Oper} {rest : List Oper} {o : Oper} {a : Act} {w : World} {Q : Exit → Act → World → Prop}
theorem appi_run (A : World) (ty : TypeId) {v vx : Value} {n k : Nat} {l m : List Int} (hown : w.ownsRow A.heap.size 3 1 v n (ints l)) (hsl : Is w vx m) (hm : m.length = k) (h63 : n + k ≤ 1000000) (hA : Below A.heap.size A w) :
    ∃ v' w', (Builtin.append_ #[23, 23] ty #[v, vx]).run Try.prog w = .ok v' w' ∧ w'.ownsRow A.heap.size 3 1 v' (n + k) (ints (l ++ m)) ∧ (v' = .slice none 0 0 ↔ v = .slice none 0 0 ∧ k = 0) ∧ Below A.heap.size A w' ∧ w.grownBy w' v.ownBlock ∧ (v'.ownBlock = v.ownBlock ∨ v'.ownBlock = some w.heap.size) := by
  obtain ⟨i, hi, hz0, hz1, hz2⟩ := info_parts infoInt
  subst hm
  obtain ⟨q, cap, rfl, hq, hsrc⟩ := hsl.src
  cases q with
  | none =>
    have h0 := hq rfl
    have hm0 : m = [] := List.eq_nil_of_length_eq_zero h0
    subst hm0
    exact ⟨v, w, append_none (P := Try.prog) w A.heap.size 23 ty 3 i 1 cap Try.underlying23 hi v n (ints l) hown, by simpa using hown, by simp, hA, ⟨rfl, rfl, rfl, Nat.le_refl _, fun _ _ _ => rfl⟩, .inl rfl⟩
  | some ad =>
    obtain ⟨v', w', hr, h2, h3, h4, h5⟩ := run_append_own_at (P := Try.prog) w A.heap.size 23 ty 3 i _ 1 8 Try.underlying23 hi hz0 hz1 hz2 rfl (by omega) v n (ints l) hown ad m.length cap (ints m) (by rw [ints_len, Nat.mul_one]) (hsrc ad rfl) (ints_one m) (by unfold maxLen; omega) (by omega) hA.size
    refine ⟨v', w', hr, by rw [← ints_append]; exact h2, h4, ?_, h3, h5⟩
    refine hA.grown h3 hA.size (fun r hr => ?_)
    rcases hown.2 with ⟨rfl, _⟩ | ⟨g', cap', cur', rfl, hbg, _⟩
    · cases hr
    · cases hr; exact hbg
theorem app_i (A : World) (hw : Region.wanted o (yielded ops a.tmps) = true) {s x : Operand} (ho : o.op = .call { callee := .builtin .append, args := #[s, x], argTypes := #[23, 23] })
    {v vx : Value} {n k : Nat} {l m : List Int} (hs : a.eval s = v) (hown : w.ownsRow A.heap.size 3 1 v n (ints l)) (hx : a.eval x = vx) (hsl : Is w vx m) (hm : m.length = k) (h63 : n + k ≤ 1000000) (hA : Below A.heap.size A w)
    (h : ∀ v' w', w'.ownsRow A.heap.size 3 1 v' (n + k) (ints (l ++ m)) → (v' = .slice none 0 0 ↔ v = .slice none 0 0 ∧ k = 0) → Below A.heap.size A w' → w.grownBy w' v.ownBlock → (v'.ownBlock = v.ownBlock ∨ v'.ownBlock = some w.heap.size) → wpList Try.prog ops Q rest (a.put o.dst v') w') : wpList Try.prog ops Q (o :: rest) a w := by
  unfold wpList
  rw [if_pos hw]
  left
  obtain ⟨v', w', hr, h1, h2, h3, h4, h5⟩ := appi_run A o.type hown hsl hm h63 hA
  unfold Oper.wp execOp
  simp only [ho, resolve, invoke, builtin, Sem.run_bind, Sem.run_pure, Result.andThen_ok, List.map_toArray, List.map_cons, List.map_nil, hs, hx, hr]
  exact h v' w' h1 h2 h3 h4 h5
/-- An operation that yields, at one operation. -/
theorem valWf {K : Act → World → Prop} (d : Option Tmp) (hd : o.dst = d) (v : Value) (hr : (execOp a.eval o).run Try.prog w = .ok (.value v) w) (h : K (a.put d v) w) : o.wp Try.prog a w K Q := by
  subst hd
  unfold Oper.wp
  rw [hr, Oper.upon_value]
  exact h
/-- A slice of numbers, just made: at one operation. -/
theorem bs_iW {K : Act → World → Prop} (d : Option Tmp) (hd : o.dst = d) {n : Nat} {parts : Array (Nat × Operand)} (ho : o.op = .buildSlice 23 n parts) (xs : List Int) {vs : Array (Nat × Value)} (hl : parts.map (fun (i, x) => (i, a.eval x)) = vs)
    (hrun : (Instr.buildSlice 23 n vs).run Try.prog w = .ok (.slice (some ⟨w.heap.size, 0, none⟩) n n) (w.alloc (.cells (ints xs).toArray 3))) (hn : xs.length = n) (hm : n ≤ maxLen)
    (h : ∀ W', W'.ownsRow w.heap.size 3 1 (.slice (some ⟨w.heap.size, 0, none⟩) n n) n (ints xs) → Below w.heap.size w W' → K (a.put d (.slice (some ⟨w.heap.size, 0, none⟩) n n)) W') : o.wp Try.prog a w K Q := by
  subst hd
  unfold Oper.wp execOp
  simp only [ho, Sem.run_bind, hl, hrun, Result.andThen_ok]
  exact h _ (own_new w xs n hn hm _ (Nat.le_refl _)) ((Below.refl _ _).alloc (Nat.le_refl _) _)
end
end Go.Proofs.Ytoeilckeebojmaa
namespace Go.Proofs.Ytoeilckeebojmaa
open Go.RowKit
set_option linter.unusedVariables false
set_option maxRecDepth 100000

/-- Nothing but these blocks has turned, of those that there were. -/
structure Frm (X : Nat → Prop) (W W' : World) : Prop where
  os : W'.os = W.os
  tape : W'.tape = W.tape
  output : W'.output = W.output
  size : W.heap.size ≤ W'.heap.size
  other : ∀ k, k < W.heap.size → ¬ X k → W'.heap[k]? = W.heap[k]?
theorem Frm.refl (X : Nat → Prop) (W : World) : Frm X W W := ⟨rfl, rfl, rfl, Nat.le_refl _, fun _ _ _ => rfl⟩
theorem Frm.trans {X : Nat → Prop} {A B C : World} (h : Frm X A B) (k : Frm X B C) : Frm X A C :=
  ⟨k.os.trans h.os, k.tape.trans h.tape, k.output.trans h.output, Nat.le_trans h.size k.size, fun i hi hx => (k.other i (Nat.lt_of_lt_of_le hi h.size) hx).trans (h.other i hi hx)⟩
theorem Frm.mono {X Y : Nat → Prop} {A B : World} (h : Frm X A B) (hxy : ∀ k, X k → Y k) : Frm Y A B := ⟨h.os, h.tape, h.output, h.size, fun i hi hy => h.other i hi (fun hx => hy (hxy i hx))⟩
/-- What is new may turn. -/
theorem Frm.young {X Y : Nat → Prop} {A B C : World} (h : Frm X A B) (k : Frm Y B C) (hxy : ∀ k, k < A.heap.size → Y k → X k) : Frm X A C :=
  ⟨k.os.trans h.os, k.tape.trans h.tape, k.output.trans h.output, Nat.le_trans h.size k.size, fun i hi hx => (k.other i (Nat.lt_of_lt_of_le hi h.size) (fun hy => hx (hxy i hi hy))).trans (h.other i hi hx)⟩
theorem frm_below {X : Nat → Prop} {A B : World} (h : Below A.heap.size A B) : Frm X A B := ⟨h.os, h.tape, h.output, h.size, fun i hi _ => h.block i hi⟩
theorem frm_chg {X : Nat → Prop} {A B : World} {b : Nat} (h : Chg b A B) (hb : X b) : Frm X A B := ⟨h.os, h.tape, h.output, Nat.le_of_eq h.size.symm, fun i hi hx => h.other i (fun e => hx (e ▸ hb))⟩
theorem frm_grown {X : Nat → Prop} {A B : World} {b : Nat} (h : A.grownBy B (some b)) (hb : X b) : Frm X A B := ⟨h.os, h.tape, h.output, h.size, fun i hi hx => h.block i hi (fun e => hx (by cases e; exact hb))⟩
theorem Frm.below {X : Nat → Prop} {A B : World} (h : Frm X A B) {n : Nat} (hn : n ≤ A.heap.size) (hx : ∀ k, X k → n ≤ k) : Below n A B := ⟨h.os, h.tape, h.output, h.size, fun i hi => h.other i (Nat.lt_of_lt_of_le hi hn) (fun e => by have := hx i e; omega)⟩
theorem Blk.frm {X : Nat → Prop} {W W' : World} {b : Nat} {vs : Array Value} {t : TypeId} (h : Blk W b vs t) (hf : Frm X W W') (hx : ¬ X b) : Blk W' b vs t := by
  unfold Blk; rw [hf.other b h.lt hx]; exact h
/-- What kind of block it is. -/
def kindR (W : World) (k : Nat) (t : TypeId) : Prop := ∃ cur fr, W.heap[k]? = some (.cells cur t fr)
theorem kindR.uniq {W : World} {k : Nat} {t t' : TypeId} (h : kindR W k t) (h' : kindR W k t') : t = t' := by
  obtain ⟨c, f, e⟩ := h
  obtain ⟨c', f', e'⟩ := h'
  rw [e] at e'
  cases e'
  rfl
theorem Blk.kindR {W : World} {k : Nat} {xs : Array Value} {t : TypeId} (h : Blk W k xs t) : kindR W k t := ⟨xs, _, h⟩
theorem own_kindR {W : World} {B n e s : Nat} {v : Value} {xs : List Value} (h : W.ownsRow B e s v n xs) {k : Nat} (hk : v.ownBlock = some k) : kindR W k e := by
  rcases h.2 with ⟨h2, _⟩ | ⟨g, cap, cur, h2, _, hg, _⟩
  · rw [h2] at hk; cases hk
  · rw [h2] at hk
    have : g = k := by simpa [Value.ownBlock] using hk
    subst this
    exact ⟨cur, _, hg⟩
/-- None of these blocks holds numbers. -/
def NoI (X : Nat → Prop) (W : World) : Prop := ∀ k, X k → ¬ kindR W k 3
theorem Io.frm {X : Nat → Prop} {W W' : World} {B : Nat} {v : Value} {l : List Int} (h : Io W B v l) (hf : Frm X W W') (hx : NoI X W) : Io W' B v l :=
  own_at h fun g hg => hf.other g (h.lt g hg).2 (fun e => hx g e (own_kindR h hg))
end Go.Proofs.Ytoeilckeebojmaa
